/-
  The machine, the program's functions and the laws' arithmetic: part 3 of 6.
-/
import Derived.Test.YtfhggcbcamamdaaGreatPk2
import Derived.BigCall
import Derived.Lib.RowBridge
import Derived.Shelf.Slices.Clone
import Derived.Shelf.Slices.CompactI
import Derived.Shelf.Slices.In.SortNone
import Derived.Shelf.Sort.Plain
import Derived.Shelf.Spec.SlicesGrow
import Derived.Shelf.Spec.SlicesInsertGrow
import Derived.Sort.OwnSortedInts
import Derived.Test.YtfhggcbcamamdaaGreatProg
set_option linter.unusedSectionVars false
set_option linter.unusedVariables false
set_option linter.unusedSimpArgs false
namespace Go.Proofs.YtfhggcbcamamdaaGreat
noncomputable section
open Go Go.RowKit
inductive rl where
 | nx (y:Code)
 | bl (id:Nat)
 | ag (c:Code) (n:Nat)
inductive Qb where
 | run (c:Code) (fs:List rl)
 | out (e:Exit) (fs:List rl)
def ri(P:Program)(Γ:H6)(K:Exit->St->Prop):List rl->Exit->St->Prop
 | []=>K
 | .nx y::fs=>vP P Γ y (ri P Γ K fs)
 | .bl id::fs=>JB id (ri P Γ K fs)
 | .ag c n::fs=>λe st=>(e = .normal/\NS P Γ c (ri P Γ K fs) n st)\/(e≠.normal/\ri P Γ K fs e st)
def GG(P:Program)(Γ:H6)(K:Exit->St->Prop):Qb->St->Prop
 | .run c fs,st=>Zk P Γ c (ri P Γ K fs) st
 | .out e fs,st=>ri P Γ K fs e st
def AQ:Code->Nat->Nat
 | .exit i,k=>bif Nat.beq i k then 1 else 0
 | .seq a b,k=>Nat.min 2 (AQ a k+AQ b k)
 | .cond _ a b,k=>Nat.min 2 (AQ a k+AQ b k)
 | .loop c,k=>Nat.min 1 (AQ c k)
 | .scope c,k=>Nat.min 1 (AQ c k)
 | .block _ c,k=>AQ c k
 | _,_=>0
def T3:Code->Nat
 | .region _ _ _=>1
 | .skip=>1
 | .label _=>1
 | .seq a b=>bif Nat.beq (T3 a) 0 then 0 else T3 b
 | .cond _ a b=>Nat.min 2 (T3 a+T3 b)
 | .block i c=>Nat.min 2 (T3 c+AQ c i)
 | .scope c=>Nat.min 2 (T3 c)
 | _=>0
def pY(a:Code):Bool:=match a with | .region _ _ _=>false|a=>Nat.ble 2 (T3 a)
def RA:Nat->Code ⊕ Exit->List rl->Qb
 | 0,.inl c,fs=>.run c fs
 | 0,.inr e,fs=>.out e fs
 | n+1,.inl c,fs=>
  match c with
  | .skip=>RA n (.inr .normal) fs
  | .label _=>RA n (.inr .normal) fs
  | .seq a b=>bif pY a then .run (.seq a b) fs else RA n (.inl a) (.nx b::fs)
  | .block id a=>RA n (.inl a) (.bl id::fs)
  | .exit id=>RA n (.inr (.exit id)) fs
  | .goto l=>RA n (.inr (.goto l)) fs
  | .ret=>RA n (.inr .ret) fs
  | c=>.run c fs
 | n+1,.inr e,fs=>
  match fs with
  | []=>.out e []
  | .nx y::fs=>(match e with | .normal=>RA n (.inl y) fs|e=>RA n (.inr e) fs)
  | .bl id::fs=>(match e with | .exit i=>bif Nat.beq i id then RA n (.inr .normal) fs else RA n (.inr (.exit i)) fs|e=>RA n (.inr e) fs)
  | .ag c m::fs=>(match e with | .normal=>(match m with|0=>.out .normal (.ag c 0::fs)|m+1=>RA n (.inl c) (.ag c m::fs))|e=>RA n (.inr e) fs)
section
variable {P:Program} {Γ:H6} {K:Exit->St->Prop}
theorem B9:∀(n:Nat) (x:Code ⊕ Exit) (fs:List rl) (st:St),GG P Γ K (RA n x fs) st->(match x with | .inl c=>Zk P Γ c (ri P Γ K fs) st | .inr e=>ri P Γ K fs e st)
 | 0,.inl c,fs,st,h=>h
 | 0,.inr e,fs,st,h=>h
 | n+1,.inl c,fs,st,h=>by
  cases c with
  | skip=>exact oV (B9 n _ fs st h)
  | label l=>exact lQ (B9 n _ fs st h)
  | seq a b=>
   cases hj:pY a with
   | true=>simp only[RA,hj]at h;exact h
   | false=>simp only[RA,hj]at h;exact jM (B9 n (.inl a) _ st h)
  | block id a=>exact lP (B9 n (.inl a) _ st h)
  | exit id=>exact oQ (B9 n _ fs st h)
  | goto l=>exact oR (B9 n _ fs st h)
  | ret=>exact sn (B9 n (.inr .ret) fs st h)
  | _=>exact h
 | n+1,.inr e,[],st,h=>h
 | n+1,.inr e,.nx y::fs,st,h=>by
  cases e with
  | normal=>exact B9 n (.inl y) fs st h
  | exit i=>exact B9 n _ fs st h
  | goto l=>exact B9 n _ fs st h
  | ret=>exact B9 n (.inr .ret) fs st h
  | panic c=>exact B9 n _ fs st h
  | outgrown=>exact B9 n _ fs st h
 | n+1,.inr e,.bl id::fs,st,h=>by
  cases e with
  | normal=>exact B9 n _ fs st h
  | exit i=>
   cases hb:Nat.beq i id with
   | true=>
    obtain rfl:=C4 hb;simp only[RA,hb]at h;exact fk (B9 n _ fs st h)
   | false=>
    simp only[RA,hb]at h;exact fj hb (B9 n _ fs st h)
  | goto l=>exact B9 n _ fs st h
  | ret=>exact B9 n (.inr .ret) fs st h
  | panic c=>exact B9 n _ fs st h
  | outgrown=>exact B9 n _ fs st h
 | n+1,.inr e,.ag c m::fs,st,h=>by
  cases e with
  | normal=>
   cases m with
   | zero=>exact h
   | succ m=>exact .inl ⟨rfl,B9 n (.inl c) _ st h⟩
  | exit i=>exact .inr ⟨(by intro hh;cases hh),B9 n _ fs st h⟩
  | goto l=>exact .inr ⟨(by intro hh;cases hh),B9 n _ fs st h⟩
  | ret=>exact .inr ⟨(by intro hh;cases hh),B9 n (.inr .ret) fs st h⟩
  | panic ch=>exact .inr ⟨(by intro hh;cases hh),B9 n _ fs st h⟩
  | outgrown=>exact .inr ⟨(by intro hh;cases hh),B9 n _ fs st h⟩
theorem Lx{n:Nat}{c:Code}{fs:List rl}{st:St}(h:GG P Γ K (RA n (.inl c) fs) st):Zk P Γ c (ri P Γ K fs) st:=B9 n _ fs st h
theorem BB{n:Nat}{e:Exit}{fs:List rl}{st:St}(h:GG P Γ K (RA n (.inr e) fs) st):ri P Γ K fs e st:=B9 n _ fs st h
def vD(c:Code)(fs:List rl):Qb:=RA 400 (.inl c) fs
def exC(e:Exit)(fs:List rl):Qb:=RA 400 (.inr e) fs
def tz:Qb->Qb
 | .run _ fs=>exC .normal fs
 | x=>x
def uE:Qb->Option (List Oper×Bool)
 | .run (.region _ ops draw) _=>some (ops.toList,draw)
 | _=>none
def rh(P:Program)(S:GP)(n:Nat)(cs:List (Nat×AV))(live names:List Nat)(x:Qb)(st:St)(rs:List Vl):Option (St×List Prop×Bool):=
 match uE x with
 | some (ops,draw)=>NX P S n cs live names ops draw st rs
 | none=>none
def t6(P:Program)(S:GP)(n:Nat)(cs:List (Nat×AV))(live names:List Nat)(x:Qb)(st:St)(rs:List Vl):St:=
 match rh P S n cs live names x st rs with
 | some r=>r.1
 | none=>st
def rj(r:Option (St×List Prop×Bool)):Option (Prop×Bool):=
 match r with
 | some r=>some (cm r.2.1,r.2.2)
 | none=>none
theorem gR{x:Qb}{st:St}{n:Nat}{H:List (Nat×Own)}(q:RgQ P Γ n H)(live names:List Nat)(cs:List (Nat×AV))(rs:List Vl){O:Prop}(hO:O)
  (k:GG P Γ K (tz x) (t6 P (Spec P) n cs live names x st rs))
  (h:rj (rh P (Spec P) n cs live names x st rs)=some (O,true):=by kernel_rfl) (hh:(H.all λx=>Bv x.1 names)=true:=by kernel_rfl):GG P Γ K x st:=by
 unfold rh at h;unfold t6 rh at k
 cases x with
 | out e fs=>simp[uE,rj]at h
 | run c fs=>
  cases c with
  | region id ops draw=>
   simp only[uE]at h k
   cases hr:NX P _ n cs _ _ _ _ st rs with
   | none=>rw[hr]at h;simp[rj]at h
   | some r=>
    obtain⟨st',obs,d⟩:=r;rw[hr]at h k;obtain⟨rfl,rfl⟩:=h;have:=fh (id:=id)  q.hn q.mix (q.hand hh) hr hO (BB k);exact(by simpa using this:Zk P Γ _ _ st)
  | _=>simp[uE,rj]at h
theorem Af{x:Qb}{st:St}{n:Nat}{H:List (Nat×Own)}(q:RgQ P Γ n H)(live names:List Nat)
  (k:GG P Γ K (tz x) (t6 P (Spec P) n [] live names x st []))
  (h:rj (rh P (Spec P) n [] live names x st [])=some (True,true):=by kernel_rfl) (hh:(H.all λx=>Bv x.1 names)=true:=by kernel_rfl):GG P Γ K x st:=gR q _ _ [] [] trivial k h hh
def vF:Qb->Bool | .run _ _=>true|_=>false
theorem gLe{x:Qb}{st st':St}(h:Le Γ st st')
  (k:GG P Γ K x st')
  (hx:vF x=true:=by kernel_rfl):GG P Γ K x st:=by
 cases x with
 | run c fs=>exact fg h k
 | out e fs=>cases hx
theorem Qa{x:Qb}{st:St}(st':St)
  (k:GG P Γ K x st')
  (h:st=st':=by kernel_rfl):GG P Γ K x st:=h▸k
def o8(x:Qb)(st:St):AV:=match x with | .run (.cond c _ _) _=>cy st.get c|_=>.any
def yx(b:Bool):Qb->Qb
 | .run (.cond _ c d) fs=>vD (bif b then c else d) fs
 | x=>x
theorem gC{x:Qb}{st:St}{R:Type}{b:Bool}{m1 m2:Option R}{r:R}(h:(bif b then m1 else m2)=some r)
  (kt:m1=some r->GG P Γ K (yx true x) st) (kf:m2=some r->GG P Γ K (yx false x) st)
  (hv:o8 x st = .bool b:=by kernel_rfl):GG P Γ K x st:=by
 cases x with
 | out e fs=>cases hv
 | run c fs=>
  cases c with
  | cond c y z=>
   refine cZ b hv (λhb=>Lx  (kt ?_)) (λhb=>Lx  (kf ?_))
   ·subst hb;exact h
   ·subst hb;exact h
  | _=>cases hv
theorem pN{x:Qb}{st:St}(b:Bool)
  (k:GG P Γ K (yx b x) st)
  (hv:o8 x st = .bool b:=by kernel_rfl):GG P Γ K x st:=by
 cases x with
 | out e fs=>cases hv
 | run c fs=>
  cases c with
  | cond c y z=>
   refine cZ b hv (λhb=>Lx (n:=400) ?_) (λhb=>Lx (n:=400) ?_)
   ·subst hb;exact k
   ·subst hb;exact k
  | _=>cases hv
theorem zD{x:Qb}{st:St}(pos:Bool)(n:Nat)
  (kt:(pos=true->n=0)->GG P Γ K (yx true x) st) (kf:(pos=false->n=0)->GG P Γ K (yx false x) st)
  (hv:o8 x st = .nilq pos n:=by kernel_rfl):GG P Γ K x st:=by
 cases x with
 | out e fs=>cases hv
 | run c fs=>
  cases c with
  | cond c y z=>exact oU pos n hv (λhb=>Lx  (kt hb)) (λhb=>Lx  (kf hb))
  | _=>cases hv
theorem gB{R:Type}{c:Bool}{m1 m2:Option R}{r:R}{G:Prop}(h:(bif c then m1 else m2)=some r)(kt:c=true->m1=some r->G)(kf:c=false->m2=some r->G):G:=by
 grind
theorem eqB(F:Bool->Prop){c b:Bool}(hs:c=b)(h:F c):F b:=hs▸h
theorem gK{x:Qb}{st:St}{e:Exit}(h:K e st)(hx:x = .out e []:=by kernel_rfl):GG P Γ K x st:=by subst hx;exact h
def aG(Γ:H6)(e0:Exit)(og:St):Exit->St->Prop:=λe st=>e=e0/\Le Γ st og
def aR(K:Exit->St->Prop):Exit->St->Prop:=λe st=>e = .ret/\K e st
theorem Be{e0:Exit}{og st:St}(h:Le Γ st og):aG Γ e0 og e0 st:=⟨rfl,h⟩
theorem Lo{st:St}(h:K .ret st):aR K .ret st:=⟨rfl,h⟩
def isN:Exit->Bool | .normal=>true|_=>false
theorem gN{S X:Type}{x:Qb}{st:St}{H:S->St}{KX:X->Exit->St->Prop}{s':S}(h:Le Γ st (H s'))(hx:x = .out .normal []:=by kernel_rfl):GG P Γ (FM Γ H KX (.next s')) x st:=by
 subst hx;exact⟨rfl,h⟩
theorem gO{S X:Type}{x:Qb}{st:St}{H:S->St}{KX:X->Exit->St->Prop}{y:X}{e:Exit}(h:KX y e st)(hx:x = .out e []:=by kernel_rfl)(hn:isN e=false:=by kernel_rfl):GG P Γ (FM Γ H KX (.done y)) x st:=by
 subst hx;exact⟨(by rintro rfl;cases hn),h⟩
def fK(P:Program)(Γ:H6)(rs:List ResultVar)(H:List (Nat×Own))(res:AV)(H':List (Nat×Own)):Exit->St->Prop:=clK Γ (zi P rs H res H')
theorem H7{rs:List ResultVar}{H H':List (Nat×Own)}{res:AV}{st st':St}{e:Exit}(ρ:List (Nat×Nat))(hl:Le Γ st st')(hr:kG P rs ρ H st'=some (res,H'):=by kernel_rfl)
  (he:(match e with | .ret=>true | .normal=>true|_=>false)=true:=by kernel_rfl):fK P Γ rs H res H' e st:=by
 refine⟨st',hl,?_,ρ,hr⟩
 cases e with
 | ret=>exact .inl rfl
 | normal=>exact .inr rfl
 | _=>cases he
theorem Ca{rs:List ResultVar}{H H':List (Nat×Own)}{res:AV}{x:Qb}{st:St}(ρ:List (Nat×Nat))(hr:kG P rs ρ H st=some (res,H'):=by kernel_rfl)
  (hx:x = .out .ret []:=by kernel_rfl):GG P Γ (fK P Γ rs H res H') x st:=gK  (H7 ρ (Le.refl _ _) hr) hx
def ZS(fn:Func):Code:=match fn.body with|some c=>c|none=>.skip
theorem KF {f : FuncId} {fn : Func} {args : List AV} {H H' : List (Nat × Own)} {res : AV} (hm : P.follows .mixedOrders = true) (hf : P.funcs[f]? = some fn)
    (k : ∀ Γ : H6, RgQ P Γ fn.ntmps H → GG P Γ (fK P Γ fn.results.toList H res H') (vD (ZS fn) []) (JJ args H))
    (hb : fn.body.isSome = true := by kernel_rfl) (hname : (fn.name == "runtime.NumGoroutine") = false := by kernel_rfl) (hlen : Nat.ble args.length fn.ntmps = true := by kernel_rfl) (hpl : RR H = true := by kernel_rfl) : Spec P f args H res H' := by
  obtain ⟨c, hc⟩ := zzL85.1 hb
  have e : ZS fn = c := by unfold ZS; rw [hc]
  refine eS hf hc hname hlen (fun Γ hn hΓ => ?_) hpl; have := k Γ ⟨hn, hm, hΓ⟩; rw [e] at this; exact wZ (Lx this)
theorem gW{st st':St}(h:st=st'):Le Γ st st':=h▸Le.refl Γ st
def ai:Qb->Bool | .run (.loop _) _=>true|_=>false
def oc:Qb->Qb
 | .run (.loop c) _=>vD c []
 | x=>x
def uG(e:Exit):Qb->Qb
 | .run _ fs=>exC e fs
 | x=>x
def zZ{α:Type}(k:Nat)(x:α):List (Nat×α)->List (Nat×α)
 | []=>[(k,x)]
 | (k',y)::l=>bif Nat.beq k k' then(k,x)::l else bif Nat.blt k k' then(k,x)::(k',y)::l else(k',y)::zZ k x l
def uI{α:Type}:List (Nat×α)->List (Nat×α)->List (Nat×α)
 | [],l=>l
 | (k,x)::r,l=>uI r (zZ k x l)
def Cm(st:St)(ts:List (Nat×AV))(os:List (Nat×Own))(fs:List (Nat×mr):=[]):St:=⟨uI ts st.tmps,uI os st.own,uI fs st.fam⟩
def Nb(live names:List Nat)(st:St)(ts:List (Nat×AV))(os:List (Nat×Own))(fs:List (Nat×mr):=[]):St:=Hs live names (Cm st ts os fs)
theorem gL{S X:Type}{x:Qb}{st:St}{n:Nat}{Hf:List (Nat×Own)}(q:RgQ P Γ n Hf){f:S->Option (LR S X)}{s0:S}{y:X}(hx:Ac f s0=some y)(live names:List Nat)(H:St->S->St)(KX:St->X->Exit->St->Prop)
  (kb:∀ s y,f s=some y->GG P Γ (FM Γ (H (Hs live names st)) (KX (Hs live names st)) y) (oc x) (H (Hs live names st) s)) (ko:∀ e st',KX (Hs live names st) y e st'->GG P Γ K (uG e x) st')
  (h0:Hs live names st=H (Hs live names st) s0:=by kernel_rfl) (hl:ai x=true:=by kernel_rfl) (hh:(Hf.all λx=>Bv x.1 names)=true:=by kernel_rfl):GG P Γ K x st:=by
 cases x with
 | out e fs=>cases hl
 | run c fs=>
  cases c with
  | loop c=>
   refine fg  ?_ (ca _ f _ (λs y hy=>Lx (kb s y hy)) hx λe st' hk=>BB (ko e st' hk));rw[<- h0];exact Bg _ _ q rfl hh
  | _=>cases hl
theorem gL0{S X:Type}{x:Qb}{st:St}{f:S->Option (LR S X)}{s0:S}{y:X}(hx:Ac f s0=some y)(H:St->S->St)(KX:St->X->Exit->St->Prop)
  (kb:∀ s y,f s=some y->GG P Γ (FM Γ (H st) (KX st) y) (oc x) (H st s)) (ko:∀ e st',KX st y e st'->GG P Γ K (uG e x) st')
  (h0:st=H st s0:=by kernel_rfl) (hl:ai x=true:=by kernel_rfl):GG P Γ K x st:=by
 cases x with
 | out e fs=>cases hl
 | run c fs=>
  cases c with
  | loop c=>exact fg (gW h0) (ca _ f _ (λs y hy=>Lx (kb s y hy)) hx λe st' hk=>BB (ko e st' hk))
  | _=>cases hl
theorem gA{x:Qb}{f:Exit->Qb->Qb}{e0:Exit}{og:St}
  (k:GG P Γ K (f e0 x) og)
  (hr:vF (f e0 x)=true:=by kernel_rfl):∀ e st',aG Γ e0 og e st'->GG P Γ K (f e x) st':=by
 rintro e st' ⟨rfl,hl⟩;exact gLe hl k hr
theorem vB{x:Qb}{f:Exit->Qb->Qb}{e0:Exit}{og:St}(k:∀ st',Le Γ st' og->GG P Γ K (f e0 x) st'):∀ e st',aG Γ e0 og e st'->GG P Γ K (f e x) st':=by
 rintro e st' ⟨rfl,hl⟩;exact k st' hl
theorem O3{x:Qb}{f:Exit->Qb->Qb}{K':Exit->St->Prop}(k:∀ st',K' .ret st'->GG P Γ K (f .ret x) st'):∀ e st',aR K' e st'->GG P Γ K (f e x) st':=by
 rintro e st' ⟨rfl,hl⟩;exact k st' hl
theorem gU{x:Qb}{st:St}(n:Nat)
  (k:GG P Γ K (match x with | .run (.loop c) fs=>vD c (.ag c n::fs)|x=>x) st)
  (hl:ai x=true:=by kernel_rfl):GG P Γ K x st:=by
 cases x with
 | out e fs=>cases hl
 | run c fs=>
  cases c with
  | loop c=>exact fi (n+1) (Lx k)
  | _=>cases hl
def zG:Qb->Bool | .run (.seq _ _) _=>true|_=>false
def zE:Qb->Qb
 | .run (.seq a _) _=>vD a []
 | x=>x
def zh(e:Exit):Qb->Qb
 | .run (.seq _ b) fs=>exC e (.nx b::fs)
 | x=>x
theorem gJ{X:Type}{x:Qb}{st:St}{m:Option X}{y:X}(hx:m=some y)(KX:X->Exit->St->Prop)
  (kb:∀ y,m=some y->GG P Γ (KX y) (zE x) st) (ko:∀ e st',KX y e st'->GG P Γ K (zh e x) st')
  (hs:zG x=true:=by kernel_rfl):GG P Γ K x st:=by
 cases x with
 | out e fs=>cases hs
 | run c fs=>
  cases c with
  | seq a b=>exact jM (oS KX hx (λy hy=>Lx (kb y hy)) λe st' hk=>BB (ko e st' hk))
  | _=>cases hs
def tX:Qb->Bool | .run (.scope _) _=>true|_=>false
def zj:Qb->Code | .run (.scope c) _=>c|_=>.skip
def zK(c:Code)(l:Nat):Qb:=vD ((findLabel c l).getD .skip) []
theorem gS{S X:Type}{x:Qb}{st:St}{f0:Option (LR S X)}{f:S->Option (LR S X)}{y:X}(hx:Rz f0 f=some y)(lab:S->Nat)(H:S->St)(KX:X->Exit->St->Prop)
  (k0:∀ y,f0=some y->GG P Γ (QE Γ (zj x) lab H KX y) (vD (zj x) []) st) (kb:∀ s y,f s=some y->GG P Γ (QE Γ (zj x) lab H KX y) (zK (zj x) (lab s)) (H s)) (ko:∀ e st',KX y e st'->GG P Γ K (uG e x) st')
  (hs:tX x=true:=by kernel_rfl):GG P Γ K x st:=by
 cases x with
 | out e fs=>cases hs
 | run c fs=>
  cases c with
  | scope c=>
   refine lR lab H f0 f KX (λy hy=>Lx (k0 y hy)) (λs y rest hf hy=>?_) hx λe st' hk=>BB (ko e st' hk);have:=kb s y hy;unfold zK zj at this;rw[hf]at this;exact Lx this
  | _=>cases hs
theorem fy{S X:Type}{x:Qb}{st:St}{c:Code}{lab:S->Nat}{H:S->St}{KX:X->Exit->St->Prop}{s':S}(h:Le Γ st (H s'))(hx:x = .out (.goto (lab s')) []:=by kernel_rfl)(hf:(findLabel c (lab s')).isSome=true:=by kernel_rfl) :
  GG P Γ (QE Γ c lab H KX (.next s')) x st:=by
 subst hx;exact⟨rfl,hf,h⟩
theorem fB{S X:Type}{x:Qb}{st:St}{c:Code}{lab:S->Nat}{H:S->St}{KX:X->Exit->St->Prop}{y:X}{e:Exit}(h:KX y e st)(hx:x = .out e []:=by kernel_rfl)
  (hf:(match e with | .goto l=>(findLabel c l).isNone|_=>true)=true:=by kernel_rfl):GG P Γ (QE Γ c lab H KX (.done y)) x st:=by
 subst hx;refine⟨?_,h⟩;rintro l rfl
 simpa using hf
theorem Sc{α:Type}{st:St}(U:α->St->St){a b:α}(h:a=b)(h1:st=U a st:=by kernel_rfl):Le Γ st (U b st):=by subst h;exact gW h1
theorem leB{st:St}(F F':Bool->St->St)(g:Bool)(h1:st=F g st:=by kernel_rfl)(ht:F true st=F' true st:=by kernel_rfl)(hf:F false st=F' false st:=by kernel_rfl):Le Γ st (F' g st):=by
 refine gW (h1.trans ?_)
 cases g<;>assumption
def Own.withF(g:Nat->List AV):Own->Own
 | .arr sz e n _=>.arr sz e n g
 | o=>o
def u3(st:St)(nm:Nat):Option (Nat×(Nat->List AV)):=match Aj st.own nm with|some (.arr _ _ n f)=>some (n,f)|_=>none
def zl(nm:Nat)(g:Nat->List AV)(st:St):St:=⟨st.tmps,(match Aj st.own nm with|some o=>Ec st.own nm (o.withF g)|none=>st.own),st.fam⟩
theorem RO{nm sz n:Nat}{e:TypeId}{f g:Nat->List AV}(hp:∀ k,k<n->AVleL (f k) (g k)):∀{l:List (Nat×Own)},Aj l nm=some (.arr sz e n f)->OwnsLe l (Ec l nm (.arr sz e n g))
 | [],h=>by cases h
 | (k,o)::l,h=>by
  simp only[Aj]at h;simp only[Ec]
  cases hb:Nat.beq k nm with
  | true=>
   obtain rfl:=C4 hb;rw[hb]at h;simp only[Ah,Ao]at h;subst h;exact .arr hp (.refl _)
  | false=>
   rw[hb]at h;exact .same (RO hp h)
theorem Sq{st:St}(nm:Nat){n:Nat}{f g:Nat->List AV}(hp:∀ k,k<n->AVleL (f k) (g k))(h:u3 st nm=some (n,f):=by kernel_rfl):Le Γ st (zl nm g st):=by
 unfold u3 at h;unfold zl
 cases ho:Aj _ nm with
 | none=>rw[ho]at h;cases h
 | some o=>
  rw[ho]at h
  cases o with
  | arr sz e n' f'=>
   obtain⟨rfl,rfl⟩:=h;exact Jc (TmpsLe.refl _) (RO hp ho)
  | _=>cases h
def o4(st:St)(nm j:Nat):Option AV:=match Aj st.own nm with|some (.row _ cells)=>cells[j]? | _=>none
def Own.withC(j:Nat)(x:AV):Own->Own
 | .row e cells=>.row e (cells.set j x)
 | o=>o
def zk(nm j:Nat)(x:AV)(st:St):St:=⟨st.tmps,(match Aj st.own nm with|some o=>Ec st.own nm (o.withC j x)|none=>st.own),st.fam⟩
theorem jo{a b:AV}(h:AVle a b):∀{l:List AV} {j:Nat},l[j]?=some a->AVleL l (l.set j b)
 | [],j,h=>by simp at h
 | x::l,0,h'=>by
  simp only[List.getElem?_cons_zero,Ao]at h';subst h';exact .cons h (.refl _)
 | x::l,j+1,h'=>by
  exact .cons (.refl _) (jo h h')
theorem RP{nm:Nat}{e:TypeId}{x y:List AV}(hp:AVleL x y):∀{l:List (Nat×Own)},Aj l nm=some (.row e x)->OwnsLe l (Ec l nm (.row e y))
 | [],h=>by cases h
 | (k,o)::l,h=>by
  simp only[Aj]at h;simp only[Ec]
  cases hb:Nat.beq k nm with
  | true=>
   obtain rfl:=C4 hb;rw[hb]at h;simp only[Ah,Ao]at h;subst h;exact .row hp (.refl _)
  | false=>
   rw[hb]at h;exact .same (RP hp h)
theorem td{st:St}(nm j:Nat){a b:AV}(hp:AVle a b)(h:o4 st nm j=some a:=by kernel_rfl):Le Γ st (zk nm j b st):=by
 unfold o4 at h;unfold zk
 cases ho:Aj _ nm with
 | none=>rw[ho]at h;cases h
 | some o=>
  rw[ho]at h
  cases o with
  | row e cells=>exact Jc (TmpsLe.refl _) (RP (jo hp h) ho)
  | _=>cases h
theorem gI(g:Bool):g=true->g=true:=id
theorem Ml(c:Bool):c=true->(c==true)=true:=gT
theorem L5(c:Bool):c=false->(c==false)=true:=gF
theorem Bq{α:Type}(sz:Nat)(e:α->List AV)(d:α)(l:List α):AVle (.slice sz l.length (λi=>(l.map e).getD i []) .exact) (AV.list sz e d l .exact):=ZR rfl λi h=>tt l i h
theorem Bz{α:Type}(sz:Nat)(e:α->List AV)(d:α):AVle (.slice 0 0 (λ_=>[]) .exact) (AV.list sz e d [] .exact):=Eh
theorem I7{α:Type}(sz nm:Nat)(e:α->List AV)(d:α)(l m:List α):AVle (.slice sz (l.length+m.length) (O1 l.length (λi=>e (l.getD i d)) (λi=>e (m.getD i d))) (.own nm)) (AV.list sz e d (l++m) (.own nm)):=wY
theorem H8{st st':St}(h:st=st':=by kernel_rfl):Le Γ st st':=h▸Le.refl Γ st
theorem ci{p q:Prop}(a:p)(b:q):p/\q:=⟨a,b⟩
theorem c1{p:Prop}(a:p):p/\True:=⟨a,trivial⟩
end
section
variable {P:Program} {Γ:H6} {K:Exit->St->Prop}
theorem tB{α β:Type}{m:Option α}{f:α->Option β}{r:β}{G:Prop}(h:m.bind f=some r)(k:∀ x,m=some x->f x=some r->G):G:=have⟨x,hx,h⟩:=bind_some h;k x hx h
theorem tC{β:Type}{c:Prop}[Decidable c]{m:Option β}{r:β}{G:Prop}(h:Az c m=some r)(k:c->m=some r->G):G:=k (Qh h).1 (Qh h).2
@[elab_as_elim] theorem tS{α:Type}{a:α}{M:α->Prop}{b:α}(h:some a=some b)(k:M a):M b:=OI h▸k
theorem tV{x:Qb}{st:St}{n:Nat}{H:List (Nat×Own)}(q:RgQ P Γ n H)(live names:List Nat){β:Type}{c:Prop}[Decidable c]{m:Option β}{r:β}(h:Az c m=some r)
  (k:m=some r->GG P Γ K (tz x) (t6 P (Spec P) n [] live names x st []))
  (h1:rj (rh P (Spec P) n [] live names x st [])=some (c/\True,true):=by kernel_rfl) (hh:(H.all λx=>Bv x.1 names)=true:=by kernel_rfl):GG P Γ K x st:=gR q live names [] [] (c1 (Qh h).1) (k (Qh h).2) h1 hh
theorem tN{S X:Type}{x:Qb}{st:St}{H:S->St}{KX:X->Exit->St->Prop}{s':S}{y:LR S X}(h:some (.next s')=some y)(h1:st=H s':=by kernel_rfl)(hx:x = .out .normal []:=by kernel_rfl):GG P Γ (FM Γ H KX y) x st:=OI h▸gN (H8 h1) hx
theorem tL{S X α:Type}{x:Qb}{st:St}{n:Nat}{Hf:List (Nat×Own)}(q:RgQ P Γ n Hf){f:S->Option (LR S X)}{s0:S}{g:X->Option α}{r:α}(h:(Ac f s0).bind g=some r)(live names:List Nat)(H:St->S->St)(KX:St->X->Exit->St->Prop)
  (kb:∀ s y,f s=some y->GG P Γ (FM Γ (H (Hs live names st)) (KX (Hs live names st)) y) (oc x) (H (Hs live names st) s)) (ko:∀ y,g y=some r->∀ e st',KX (Hs live names st) y e st'->GG P Γ K (uG e x) st')
  (h0:Hs live names st=H (Hs live names st) s0:=by kernel_rfl) (hl:ai x=true:=by kernel_rfl) (hh:(Hf.all λx=>Bv x.1 names)=true:=by kernel_rfl):GG P Γ K x st:=tB h λy hy h=>gL q hy live names H KX kb (ko y h) h0 hl hh
theorem tU{x:Qb}{st:St}{n:Nat}{H:List (Nat×Own)}(q:RgQ P Γ n H)(live names:List Nat){O:Prop}(hO:O)
  (k:GG P Γ K (tz x) (t6 P (Spec P) n [] live names x st []))
  (h:rj (rh P (Spec P) n [] live names x st [])=some (O,true):=by kernel_rfl) (hh:(H.all λx=>Bv x.1 names)=true:=by kernel_rfl):GG P Γ K x st:=gR q live names [] [] hO k h hh
theorem tT{x:Qb}{st:St}{n:Nat}{H:List (Nat×Own)}(q:RgQ P Γ n H)(live names:List Nat)(rs:List Vl){O:Prop}(hO:O)
  (k:GG P Γ K (tz x) (t6 P (Spec P) n [] live names x st rs))
  (h:rj (rh P (Spec P) n [] live names x st rs)=some (O,true):=by kernel_rfl) (hh:(H.all λx=>Bv x.1 names)=true:=by kernel_rfl):GG P Γ K x st:=gR q live names [] rs hO k h hh
theorem tW{x:Qb}{st:St}{n:Nat}{H:List (Nat×Own)}(q:RgQ P Γ n H)(live names live2 names2:List Nat)
  (k:GG P Γ K (tz (tz x)) (t6 P (Spec P) n [] live2 names2 (tz x) (t6 P (Spec P) n [] live names x st []) []))
  (h:rj (rh P (Spec P) n [] live names x st [])=some (True,true):=by kernel_rfl) (hh:(H.all λx=>Bv x.1 names)=true:=by kernel_rfl)
  (h2:rj (rh P (Spec P) n [] live2 names2 (tz x) (t6 P (Spec P) n [] live names x st []) [])=some (True,true):=by kernel_rfl) (hh2:(H.all λx=>Bv x.1 names2)=true:=by kernel_rfl):GG P Γ K x st:=Af q live names (Af q live2 names2 k h2 hh2) h hh
end
def cjO:List Own->Prop->Prop
 | [],p=>p
 | o::l,p=>some o=some o/\cjO l p
theorem uR:∀(l:List Own) {p:Prop},p->cjO l p
 | [],_,h=>h
 | _::l,_,h=>⟨rfl,uR l h⟩
theorem rkl(l:List Own):cjO l True:=uR l trivial
theorem Md{R:Prop}(g:Bool)(r:R):(g=true->g=true)/\((g=true->g=true)/\(R)):=⟨id,⟨id,r⟩⟩
theorem Yy{R:Prop}(g:Bool)(r:R):(g=true->g=true)/\((g=true->g=true)/\((g=true->g=true)/\(R))):=⟨id,⟨id,⟨id,r⟩⟩⟩
theorem LO{R:Prop}(g:Bool)(r:R):(g=true->g=true)/\((g=true->g=true)/\((g=true->g=true)/\((g=true->g=true)/\(R)))):=⟨id,⟨id,⟨id,⟨id,r⟩⟩⟩⟩
theorem ww{R:Prop}(g:Bool)(r:R):(g=true->g=true)/\((g=true->g=true)/\((g=true->g=true)/\((g=true->g=true)/\((g=true->g=true)/\(R))))):=⟨id,⟨id,⟨id,⟨id,⟨id,r⟩⟩⟩⟩⟩
theorem vC{R:Prop}(g:Bool)(r:R):(g=true->g=true)/\((g=true->g=true)/\((g=true->g=true)/\((g=true->g=true)/\((g=true->g=true)/\((g=true->g=true)/\(R)))))):=⟨id,⟨id,⟨id,⟨id,⟨id,⟨id,r⟩⟩⟩⟩⟩⟩
theorem gI7{R:Prop}(g:Bool)(r:R):(g=true->g=true)/\((g=true->g=true)/\((g=true->g=true)/\((g=true->g=true)/\((g=true->g=true)/\((g=true->g=true)/\((g=true->g=true)/\(R))))))):=⟨id,⟨id,⟨id,⟨id,⟨id,⟨id,⟨id,r⟩⟩⟩⟩⟩⟩⟩
theorem gI8{R:Prop}(g:Bool)(r:R):(g=true->g=true)/\((g=true->g=true)/\((g=true->g=true)/\((g=true->g=true)/\((g=true->g=true)/\((g=true->g=true)/\((g=true->g=true)/\((g=true->g=true)/\(R)))))))):=⟨id,⟨id,⟨id,⟨id,⟨id,⟨id,⟨id,⟨id,r⟩⟩⟩⟩⟩⟩⟩⟩
theorem gI9{R:Prop}(g:Bool)(r:R):(g=true->g=true)/\((g=true->g=true)/\((g=true->g=true)/\((g=true->g=true)/\((g=true->g=true)/\((g=true->g=true)/\((g=true->g=true)/\((g=true->g=true)/\((g=true->g=true)/\(R))))))))):=⟨id,⟨id,⟨id,⟨id,⟨id,⟨id,⟨id,⟨id,⟨id,r⟩⟩⟩⟩⟩⟩⟩⟩⟩
theorem fq{p0 p1 R:Prop}(a0:p0)(a1:p1)(r:R):p0/\p1/\R:=⟨a0,a1,r⟩
theorem c2{p0 p1:Prop}(a0:p0)(a1:p1):p0/\p1/\True:=⟨a0,a1,trivial⟩
theorem UN{p0 p1 p2 R:Prop}(a0:p0)(a1:p1)(a2:p2)(r:R):p0/\p1/\p2/\R:=⟨a0,a1,a2,r⟩
theorem c3{p0 p1 p2:Prop}(a0:p0)(a1:p1)(a2:p2):p0/\p1/\p2/\True:=⟨a0,a1,a2,trivial⟩
theorem d4_{p0 p1 p2 p3 R:Prop}(a0:p0)(a1:p1)(a2:p2)(a3:p3)(r:R):p0/\p1/\p2/\p3/\R:=⟨a0,a1,a2,a3,r⟩
theorem c4{p0 p1 p2 p3:Prop}(a0:p0)(a1:p1)(a2:p2)(a3:p3):p0/\p1/\p2/\p3/\True:=⟨a0,a1,a2,a3,trivial⟩
theorem d5_{p0 p1 p2 p3 p4 R:Prop}(a0:p0)(a1:p1)(a2:p2)(a3:p3)(a4:p4)(r:R):p0/\p1/\p2/\p3/\p4/\R:=⟨a0,a1,a2,a3,a4,r⟩
theorem c5{p0 p1 p2 p3 p4:Prop}(a0:p0)(a1:p1)(a2:p2)(a3:p3)(a4:p4):p0/\p1/\p2/\p3/\p4/\True:=⟨a0,a1,a2,a3,a4,trivial⟩
theorem d6_{p0 p1 p2 p3 p4 p5 R:Prop}(a0:p0)(a1:p1)(a2:p2)(a3:p3)(a4:p4)(a5:p5)(r:R):p0/\p1/\p2/\p3/\p4/\p5/\R:=⟨a0,a1,a2,a3,a4,a5,r⟩
theorem c6{p0 p1 p2 p3 p4 p5:Prop}(a0:p0)(a1:p1)(a2:p2)(a3:p3)(a4:p4)(a5:p5):p0/\p1/\p2/\p3/\p4/\p5/\True:=⟨a0,a1,a2,a3,a4,a5,trivial⟩
theorem c7{p0 p1 p2 p3 p4 p5 p6:Prop}(a0:p0)(a1:p1)(a2:p2)(a3:p3)(a4:p4)(a5:p5)(a6:p6):p0/\p1/\p2/\p3/\p4/\p5/\p6/\True:=⟨a0,a1,a2,a3,a4,a5,a6,trivial⟩
theorem d8_{p0 p1 p2 p3 p4 p5 p6 p7 R:Prop}(a0:p0)(a1:p1)(a2:p2)(a3:p3)(a4:p4)(a5:p5)(a6:p6)(a7:p7)(r:R):p0/\p1/\p2/\p3/\p4/\p5/\p6/\p7/\R:=⟨a0,a1,a2,a3,a4,a5,a6,a7,r⟩
theorem c8{p0 p1 p2 p3 p4 p5 p6 p7:Prop}(a0:p0)(a1:p1)(a2:p2)(a3:p3)(a4:p4)(a5:p5)(a6:p6)(a7:p7):p0/\p1/\p2/\p3/\p4/\p5/\p6/\p7/\True:=⟨a0,a1,a2,a3,a4,a5,a6,a7,trivial⟩
theorem d9_{p0 p1 p2 p3 p4 p5 p6 p7 p8 R:Prop}(a0:p0)(a1:p1)(a2:p2)(a3:p3)(a4:p4)(a5:p5)(a6:p6)(a7:p7)(a8:p8)(r:R):p0/\p1/\p2/\p3/\p4/\p5/\p6/\p7/\p8/\R:=⟨a0,a1,a2,a3,a4,a5,a6,a7,a8,r⟩
theorem c9{p0 p1 p2 p3 p4 p5 p6 p7 p8:Prop}(a0:p0)(a1:p1)(a2:p2)(a3:p3)(a4:p4)(a5:p5)(a6:p6)(a7:p7)(a8:p8):p0/\p1/\p2/\p3/\p4/\p5/\p6/\p7/\p8/\True:=⟨a0,a1,a2,a3,a4,a5,a6,a7,a8,trivial⟩
open Go.Shelf
def groRen:Go.Shelf.Ren:=⟨fun|4=>139|n=>n,fun|22=>60|25=>70|n=>n,fun|n=>n⟩
theorem jn : Go.Proofs.Lays8.n4 Tryz.prog groRen := {
  mixed := by kernel_rfl
  f4 := ⟨"slices.Grow[[]lockstep/api.Op,lockstep/api.Op]", by decide, Tryz.func139.trans (Bi some (by kernel_rfl))⟩
  t0 := Tryz.underlying0
  a0 := Tryz.isAgg0
  z0 := Tryz.sizeOf0
  v0 := Tryz.zeroValue0
  t3 := Tryz.underlying3
  a3 := Tryz.isAgg3
  z3 := Tryz.sizeOf3
  v3 := Tryz.zeroValue3
  t4 := Tryz.underlying4
  a4 := Tryz.isAgg4
  z4 := Tryz.sizeOf4
  v4 := Tryz.zeroValue4
  t9 := Tryz.underlying9
  a9 := Tryz.isAgg9
  z9 := Tryz.sizeOf9
  v9 := Tryz.zeroValue9
  t20 := Tryz.underlying20
  a20 := Tryz.isAgg20
  z20 := Tryz.sizeOf20
  v20 := Tryz.zeroValue20
  t22 := Tryz.underlying60
  a22 := Tryz.isAgg60
  z22 := Tryz.sizeOf60
  v22 := Tryz.zeroValue60 }
def iN{α:Type}(n:Int):Option (List α):=Az (0<=n/\n<=1000000) (some [])
theorem jf{s:Nat}{e:TypeId}:Au (Aj ([]:List (Nat×Own))) 20000 (.tok s e 0)=Aj [(20000,.tok s e 0)]:=by
 funext k
 by_cases h:k=20000
 ·subst h;simp[Au,Aj]
 ·have h2:Nat.beq 20000 k=false:=by
   cases hb:Nat.beq 20000 k with
   | false=>rfl
   | true=>exact absurd (C4 hb).symm h
  simp[Au,Aj,h,h2]
theorem qu{α:Type}(n:Int)(r:List α)(h:iN n=some r){e:α->List AV}{d:α} :
  Spec Tryz.prog 139 [.slice 0 0 (λ_=>[]) .exact,.int .i64 n] [] (AV.list 6 e d r (.own 20000)) [(20000,.tok 6 70 r.length)]:=by
 obtain⟨⟨h0,h1⟩,h⟩:=Qh h;obtain rfl:=OI h;obtain⟨k,rfl⟩:=Int.eq_ofNat_of_zero_le h0;refine⟨enters_of Tryz.func139 (by kernel_rfl) rfl,λw I θ zs hargs hrel hval _=>?_⟩;obtain⟨zs⟩:=zs
 cases hargs with|cons hA t=>cases t with|cons hB t=>cases t with|nil=>
 obtain rfl:=Rep.int_inv hB
 obtain⟨a,hav⟩:∃ a,‹Value› = .slice a 0 0:=by
  cases hA with
  | val v x h=>cases h
  | exact a n sz f h=>exact⟨a,rfl⟩
 subst hav
 show Calls _ _ _ _ _
 have rep0:∀(I:Nat->Nat->Prop) (θ:Nat->Option (Nat×Nat)) (w:World) (a:Option Addr) (c:Nat),c<=maxLen->(a=none->c=0)->(match θ 20000 with|none=>c=0|some (g,c')=>a=some ⟨g,0,none⟩/\c=c')->
   Rep I (Aj [(20000,.tok 6 70 0)]) θ w (.slice a 0 c) (AV.list 6 e d [] (.own 20000)):=λI θ w a c hm hn hv=>
  .own 20000 _ 70 0 a 0 c _ rfl (zzL6 _) (λ_=>hv) (.slice a 0 c _ _ (λ_=>undef) (P4 _) hm (λh=>by omega) hn (λj hj=>by omega) (λi hi=>by omega) (λi c hi=>by omega))
 by_cases hk:k=0
 ·subst hk;refine(Any8.slices_Grow_room jn a 0 0 0 w (zzL6 _) (by decide) (by decide) (by decide)).mono ?_;rintro ev w' ⟨rfl,hw⟩;rw[hw];have hc:=CX (nm:=20000) (s:=6) (e:=70) (m':=0) (t':=none) (I':=I) (w':=w) hrel (λ_ _ h=>h) (λ_ _ _=>rfl) (.inl rfl) (λ_ _ _=>rfl) (λ_ _ h=>.inl h) hval rfl rfl rfl (zzL6 _)
   (λ_ _ h=>by cases h) (λ_ _ h=>by cases h) (λ_ _=>rfl)
  rw[jf]at hc;exact⟨_,I,_,rfl,hc,rep0 _ _ _ _ _ (P4 _) (λ_=>rfl) (by simp[thUp])⟩
 ·cases hi:Tryz.prog.info? 70 with
  | none=>exact absurd (show(Tryz.prog.info? 70).isSome=true by kernel_rfl) (by rw[hi];simp)
  | some i0=>
   have e1:(Tryz.prog.info? 70).map (·.size)=some 6:=by kernel_rfl
   have e2:((Tryz.prog.info? 70).bind (·.zero)).map (·.cells.size)=some 6:=by kernel_rfl
   have e3:Nat.ble (((Tryz.prog.info? 70).map (·.bytes)).getD 1000) 128=true:=by kernel_rfl
   rw[hi]at e1 e2 e3;simp only[FW,Ao,An,KR]at e1 e2 e3;have e3:=K8 e3
   cases hz:i0.zero with
   | none=>rw[hz]at e2;cases e2
   | some z=>
    rw[hz]at e2;simp only[FW,Ao]at e2
    have hb:(0+k)*i0.bytes<=140737488355328:=by
     have:(0+k)*i0.bytes<=1000000*128:=Nat.mul_le_mul (by omega) e3;omega
    refine(Any8.slices_Grow_grow jn i0 z hi hz (by omega) a 0 0 k [] w (zzL6 _) (by omega) hb (by omega) (by simp) (λ_=>rfl) (λ_ _ j v h=>by simp at h)).mono ?_;rintro ev w' ⟨rfl,rfl⟩;have hG:=grownCap_ge w (0+k) 0 70;have hG2:grownCap w (0+k) 0 70<=maxLen:=grownCap_le_maxLen w _ _ _ (by unfold maxLen;omega);have hG':grownCap w (0+k) 0 (groRen.t 25)=grownCap w (0+k) 0 70:=rfl;rw[hG']
    generalize grownCap w (0+k) 0 70=G at hG hG2
    have hlt:∀ b o,I b o->b<w.heap.size:=λb o hi=>by
     obtain⟨u,hu⟩:=hval b o hi;exact Of hu
    have hold:∀(ob:Obj) (b:Nat),b<w.heap.size->(w.drew.alloc ob).heap[b]?=w.heap[b]?:=λob b hb=>by
     show(w.heap.push ob)[b]?=_
     rw[Array.getElem?_push,if_neg (Nat.ne_of_lt hb)]
    have hcell:∀(ob:Obj) (b o:Nat),I b o->(w.drew.alloc ob).cell? ⟨b,o,none⟩=w.cell? ⟨b,o,none⟩:=λob b o hi=>ET (a:=⟨b,o,none⟩) (hold ob b (hlt b o hi));have hc:=CX (nm:=20000) (s:=6) (e:=70) (m':=0) (t':=some (w.heap.size,G)) (I':=I) (w':=w.drew.alloc (.cells (([]:List Value).toArray++Builtin.zeroCells z.cells (0+k-0)++Builtin.zeroCells z.cells (G-(0+k))) 70)) hrel (λ_ _ h=>h) (hcell _) (.inl rfl) (λb hb _=>hold _ b hb) (λ_ _ h=>.inl h)
     (λb o hi=>by rw[hcell _ b o hi];exact hval b o hi) rfl rfl rfl (by show w.heap.size<=(w.heap.push _).size;simp)
     (λg c h=>by
      obtain⟨rfl,rfl⟩:=Prod.mk.inj (OI h);refine⟨_,0,Y9 w.drew _,P4 _,hG2,?_,P4 _,λj hj=>absurd (hlt _ _ hj) (EX _)⟩
      have hs:∀ x,((([]:List Value).toArray++Builtin.zeroCells z.cells (0+k-0))++Builtin.zeroCells z.cells x).size=(k+x)*6:=λx=>by
       simp only[Array.size_append,size_zeroCells,e2];simp[Gl]
      exact(hs _).trans (Bi (·*6) (by omega)))
     (λg c h=>by
      obtain⟨rfl,rfl⟩:=Prod.mk.inj (OI h)
      exact .inl (zzL6 _)) (λh=>by cases h)
    rw[jf]at hc;exact⟨_,I,_,rfl,hc,rep0 _ _ _ _ _ hG2 (λh=>by cases h) (by simp[thUp])⟩
def insRen:Go.Shelf.Ren:=⟨fun|21=>193|27=>236|28=>237|35=>276|39=>196|n=>n,fun|22=>22|n=>n,fun|n=>n⟩
theorem HJ:Go.Proofs.Lays2.n21 Tryz.prog insRen:={
 mixed:=by kernel_rfl
 f21:=Tryz.func193.trans (Bi some (by kernel_rfl))
 f27:=Tryz.func236.trans (Bi some (by kernel_rfl))
 f28:=Tryz.func237.trans (Bi some (by kernel_rfl))
 f35:=Tryz.func276.trans (Bi some (by kernel_rfl))
 f39:=Tryz.func196.trans (Bi some (by kernel_rfl))
 t0:=Tryz.underlying0
 a0:=Tryz.isAgg0
 z0:=Tryz.sizeOf0
 v0:=Tryz.zeroValue0
 t3:=Tryz.underlying3
 a3:=Tryz.isAgg3
 z3:=Tryz.sizeOf3
 v3:=Tryz.zeroValue3
 t4:=Tryz.underlying4
 a4:=Tryz.isAgg4
 z4:=Tryz.sizeOf4
 v4:=Tryz.zeroValue4
 t22:=Tryz.underlying22
 a22:=Tryz.isAgg22
 z22:=Tryz.sizeOf22
 v22:=Tryz.zeroValue22
 i3:=by kernel_rfl }
def UQ(w:World)(g c:Nat):Prop:=∃ cur,w.heap[g]?=some (.cells cur 3 (0,0))/\cur.size=c
structure Lk(w w':World)(g:Nat):Prop where
 os:w'.os=w.os
 tape:w'.tape=w.tape
 output:w'.output=w.output
 drawn:w.drawn<=w'.drawn
 size:w.heap.size<=w'.heap.size
 other:∀ b,b<w.heap.size->b≠g->w'.heap[b]?=w.heap[b]?
 blk:∀ c,UQ w g c->UQ w' g c
theorem Lk.refl(w:World)(g:Nat):Lk w w g:=⟨rfl,rfl,rfl,zzL6 _,zzL6 _,λ_ _ _=>rfl,λ_ h=>h⟩
theorem Lk.trans{w w' w'':World}{g:Nat}(h:Lk w w' g)(k:Lk w' w'' g):Lk w w'' g:=
 ⟨k.os.trans h.os,k.tape.trans h.tape,k.output.trans h.output,P3 h.drawn k.drawn,P3 h.size k.size,λb hb hn=>(k.other b (Nat.lt_of_lt_of_le hb h.size) hn).trans (h.other b hb hn),λc hc=>k.blk c (h.blk c hc)⟩
theorem DH(w:World)(g:Nat):Lk w w.drew g:=⟨rfl,rfl,rfl,Nat.le_succ _,zzL6 _,λ_ _ _=>rfl,λ_ h=>h⟩
theorem te(w:World)(g o:Nat)(v:Value):Lk w (w.setCell ⟨g,o,none⟩ v) g:=
 ⟨rfl,rfl,rfl,zzL6 _,by simp[World.setCell],λb _ hn=>Below.heap_setCell w _ v b hn,λc ⟨cur,h1,h2⟩=>⟨_,heap_setCell_same w g o cur 3 v h1,by simpa using h2⟩⟩
theorem Wi(g:Nat):∀(vs:List Value) (o:Nat) (w:World),Lk w (w.setCells g o vs) g
 | [],_,w=>.refl w g
 | v::r,o,w=>(te w g o v).trans (Wi g r (o+1) _)
theorem QO{w:World}{ob:Obj}{g:Nat}(hg:w.heap.size<=g):Lk w (w.alloc ob) g:=
 ⟨rfl,rfl,rfl,zzL6 _,by show w.heap.size<=(w.heap.push ob).size;simp,λb hb _=>by show(w.heap.push ob)[b]?=_;rw[Array.getElem?_push,if_neg (Nat.ne_of_lt hb)],λc ⟨cur,h1,_⟩=>by
  rw[Array.getElem?_eq_none hg]at h1;cases h1⟩
theorem JA{w:World}(cs:Array Value):UQ (w.alloc (.cells cs 3)) w.heap.size cs.size:=⟨cs,Y9 w _,rfl⟩
theorem ZQ(vs:List Value)(Z:Array Value){j:Nat}(h:j<vs.length):(vs.toArray++Z)[j]?=vs[j]?:=by
 rw[Array.getElem?_append_left (by simpa using h)];simp
theorem S9(l:List Int){j:Nat}(h:j<l.length):(l.map (Value.int .i64))[j]?=some (.int .i64 (l.getD j 0)):=by simp[List.getD,h]
theorem PD{w:World}{g c j:Nat}(h:UQ w g c)(hj:j<c):(w.cell? ⟨g,j,none⟩).isSome=true:=by
 obtain⟨cur,h1,h2⟩:=h;rw[Nf _ _ _ cur 3 (0,0) h1,Array.getElem?_eq_getElem (by omega)];rfl
theorem NY{w:World}{g c:Nat}(h:UQ w g c)(j:Nat):w.frozen? ⟨g,j,none⟩=false:=by
 obtain⟨cur,h1,h2⟩:=h;simp[World.frozen?,h1]
theorem AP{w:World}{g c o:Nat}{vs:List Value}(hB:UQ w g c)(ho:o+vs.length<=c)(j:Nat) :
  (w.setCells g o vs).cell? ⟨g,j,none⟩=if o<=j/\j<o+vs.length then vs[j-o]? else w.cell? ⟨g,j,none⟩:=by
 split
 ·rename_i h
  obtain⟨i,rfl⟩:∃ i,j=o+i:=⟨j-o,by omega⟩;rw[World.cell?_setCells_in g vs o w (λi hi=>PD hB (by omega)) i (by omega),Nat.add_sub_cancel_left,P2 (by omega)]
 ·rename_i h
  exact World.cell?_setCells_out g vs o w _ (λ_ _=>by show j<o\/o+vs.length<=j;omega)
def CD(l:List Int)(i:Int)(v:List Int):Option (List Int×List Int×List Int):=
 Az (0<=i/\i<=l.length/\0<v.length/\l.length+v.length<=room) (some (l.take i.toNat++v++l.drop i.toNat,l.take i.toNat++v++l.drop i.toNat,v))
theorem jV{l:List Int}{j:Nat}{u:Value}(h:(l.map (Value.int .i64))[j]?=some u):j<l.length/\u = .int .i64 (l.getD j 0):=by
 rw[KO]at h;obtain⟨x,hx,rfl⟩:=zzL80.1 h;obtain⟨h1,h2⟩:=List.getElem?_eq_some_iff.1 hx;exact⟨h1,by simp[List.getD,hx]⟩
theorem dt(l:List Int):∀ v∈l.map (Value.int .i64),v.oneCell'=true:=by
 intro v hv;obtain⟨x,_,rfl⟩:=zzL21.1 hv
 rfl
section
variable {I:Nat->Nat->Prop} {own:Nat->Option Own} {θ:Nat->Option (Nat×Nat)} {w w':World}
theorem rowI_at(hrel:Jk I own θ w){nm n:Nat}{f:Nat->List AV}{v:Value}{l:List Int}(hl:l.length=n)(ho:own nm=some (.arr 1 3 n f))(hf:∀ k,k<n->f k=[.int .i64 (l.getD k 0)])(h:Rep I own θ w v (.vsl nm n)) :
  (θ nm=none/\l=[]/\∃ a,v = .slice a 0 0)\/∃ g c,θ nm=some (g,c)/\v = .slice (some ⟨g,0,none⟩) n c/\n<=c/\c<=maxLen/\UQ w g c/\(∀ j,j<n->w.cell? ⟨g,j,none⟩=some (.int .i64 (l.getD j 0)))/\∀ j,¬ I g j:=by
 obtain⟨sz,e2,m,f2,ad,cap,rfl,ho2,hm,hcap,hmax,hn,hv⟩:=h.vsl_inv;rw[ho]at ho2;simp only[Ao,Own.arr.injEq]at ho2;obtain⟨rfl,rfl,rfl,rfl⟩:=ho2;have hv:=hv rfl;obtain⟨k1,k2⟩:=hrel.arr nm _ _ _ _ ho
 cases hθ:θ nm with
 | none=>
  rw[hθ]at hv;simp only at hv;have:=k1 hθ;subst this;exact .inl ⟨rfl,zzL94.1 hl,ad,by rw[hv]⟩
 | some gc=>
  obtain⟨g,c⟩:=gc;rw[hθ]at hv;simp only at hv;obtain⟨rfl,rfl⟩:=hv;obtain⟨cur,q1,q2,q3,q4,q5,q6,q7⟩:=k2 g cap hθ;rw[Uh]at q4;refine .inr ⟨g,cap,rfl,rfl,q2,q3,⟨cur,q1,q4⟩,λj hj=>?_,q7⟩;obtain⟨_,q⟩:=q6 j 0 hj (by omega);rw[hf j hj,Uh,Nd]at q;have q:=Rep.int_inv q;rw[Nf _ _ _ cur 3 (0,0) q1,<- q];simp only[Rl];rw[Array.getElem?_eq_getElem (by omega)]
  rfl
theorem f9(hrel:Jk I own θ w)(hval:∀ b o,I b o->∃ u,w.cell? ⟨b,o,none⟩=some u){nm n:Nat}{f:Nat->List AV}(ho:own nm=some (.arr 1 3 n f)){r:List Int}(hn:n<r.length){g c:Nat}(hc:r.length<=c)(hm:c<=maxLen)
  (hlk:Lk w w' g) (hblk:UQ w' g c) (hcell:∀ j,j<r.length->w'.cell? ⟨g,j,none⟩=some (.int .i64 (r.getD j 0))) (hI:∀ j,¬ I g j) (hg:w.heap.size<=g\/∃ c',θ nm=some (g,c')) :
  ∃ v θ',Value.slice (some ⟨g,0,none⟩) r.length c=v/\Chg own θ I w (Au own nm (.arr 1 3 r.length (λi=>[.int .i64 (r.getD i 0)]))) θ' I w'/\Rep I (Au own nm (.arr 1 3 r.length (λi=>[.int .i64 (r.getD i 0)]))) θ' w' v (.vsl nm r.length):=by
 have hoth:∀ b o,I b o->w'.cell? ⟨b,o,none⟩=w.cell? ⟨b,o,none⟩:=λb o hi=>by
  obtain⟨u,hu⟩:=hval b o hi;exact ET (a:=⟨b,o,none⟩) (hlk.other b (Of hu) (λe=>hI o (e▸hi)))
 have hk:=Mb (nm:=nm) (s:=1) (e:=3) (m':=r.length) (f':=λi=>[.int .i64 (r.getD i 0)]) (t':=some (g,c)) (w':=w') hrel hval hoth (.inr ⟨n,f,ho,Nat.le_of_lt hn,λh=>by omega⟩)
  (λb hb hne=>hlk.other b hb (λe=>by
   subst e;rcases hg with hg|⟨c',hg⟩
   ·omega
   ·exact hne c' (by rw[ho];intro hh;cases hh) hg)) hlk.os hlk.tape hlk.output hlk.size (λhh=>by cases hh)
  (λg' c' hh=>by
   obtain⟨rfl,rfl⟩:=Prod.mk.inj (OI hh);obtain⟨cur,h1,h2⟩:=hblk;refine⟨cur,h1,hc,hm,by rw[h2,Uh],λ_ _=>rfl,λi j hi hj=>?_,hI⟩
   obtain rfl:j=0:=by omega
   have:=hcell i hi;rw[Nf _ _ _ cur 3 (0,0) h1]at this;rw[Uh,Nd,Rl,this]
   exact⟨rfl,λ_=>.val _ _ (.int _ _)⟩)
  (λg' c' hh=>by
   obtain⟨rfl,rfl⟩:=Prod.mk.inj (OI hh);rcases hg with hg|⟨c',hg⟩
   ·exact .inl hg
   ·exact .inr ⟨(by rw[ho];intro hh;cases hh),c',hg⟩) hlk.drawn
 exact⟨_,_,rfl,hk,.vsl nm 1 3 r.length (λi=>[.int .i64 (r.getD i 0)]) (some ⟨g,0,none⟩) r.length c (by simp only[Au,Mw]) (zzL6 _) hc hm (λhh=>by cases hh) (λ_=>by simp[thUp])⟩
end
set_option maxHeartbeats 1000000 in
theorem SS(l:List Int)(i:Int)(v:List Int)(r:List Int×List Int×List Int)(h:CD l i v=some r)(f:Nat->List AV)(hf:∀ k,k<v.length->f k=[.int .i64 (v.getD k 0)]) :
  Spec Tryz.prog 193 [.vsl 34000 l.length,.int .i64 i,.vsl 34002 v.length] [(34000,.arr 1 3 l.length (λi=>[.int .i64 (l.getD i 0)])),(34002,.arr 1 3 v.length f)] (.vsl 34000 r.2.1.length)
   [(34000,.arr 1 3 r.2.1.length (λi=>[.int .i64 (r.2.1.getD i 0)])),(34002,.arr 1 3 r.2.2.length (λi=>[.int .i64 (r.2.2.getD i 0)]))]:=by
 obtain⟨⟨hi0,hin,hm,hroom⟩,h⟩:=Qh h;obtain rfl:=OI h;unfold room at hroom;obtain⟨k,rfl⟩:=Int.eq_ofNat_of_zero_le hi0
 have hkn:k<=l.length:=by omega
 simp only[C5];refine⟨enters_of Tryz.func193 (by kernel_rfl) rfl,λw I θ zs hargs hrel hval _=>?_⟩;obtain⟨zs⟩:=zs
 cases hargs with|cons h1 t=>cases t with|cons h2 t=>cases t with|cons h3 t=>cases t with|nil=>
 obtain rfl:=Rep.int_inv h2;rcases rowI_at hrel (l:=v) rfl rfl hf h3 with⟨_,h,_⟩|⟨vg,vc,hvθ,rfl,hvc,_,⟨vcur,hvh,hvs'⟩,hvcell,hvI⟩
 ·rw[h]at hm;cases hm
 have hvs:∀(W:World),(∀ o,W.cell? ⟨vg,o,none⟩=w.cell? ⟨vg,o,none⟩)->∀ j u,(v.map (Value.int .i64))[j]?=some u->W.cell? ⟨vg,0+j,none⟩=some u:=λW hW j u hj=>by
  obtain⟨h1,rfl⟩:=jV hj;rw[E6,hW,hvcell j h1]
 generalize hr:l.take k++v++l.drop k=r
 have hrl:r.length=l.length+v.length:=by rw[<- hr];simp;omega
 have hr1:∀ j,j<k->r.getD j 0=l.getD j 0:=λj hj=>by rw[<- hr];simp only[List.getD];rw[EU,Ug (by simp;omega),List.getElem?_take_of_lt hj]
 have hr2:∀ j,j<v.length->r.getD (k+j) 0=v.getD j 0:=λj hj=>by
  rw[<- hr];simp only[List.getD];rw[EU,Ve (by simp;omega),Ug (by simp;omega)];congr 2;simp;omega
 have hr3:∀ j,k+v.length<=j->r.getD j 0=l.getD (j-v.length) 0:=λj hj=>by
  rw[<- hr];simp only[List.getD];rw[Ve (by simp;omega),II];congr 2;simp;omega
 obtain⟨own1,hown1⟩:∃ o,o=Au (Aj [(34000,Own.arr 1 3 l.length (λi=>[.int .i64 (l.getD i 0)])),(34002,Own.arr 1 3 v.length f)]) 34002 (.arr 1 3 v.length (λi=>[.int .i64 (v.getD i 0)])):=⟨_,rfl⟩
 have hk1:Chg (Aj [(34000,Own.arr 1 3 l.length (λi=>[.int .i64 (l.getD i 0)])),(34002,Own.arr 1 3 v.length f)]) θ I w own1 θ I w:=by
  have:=Mb (nm:=34002) (s:=1) (e:=3) (m':=v.length) (f':=λi=>[.int .i64 (v.getD i 0)]) (t':=some (vg,vc)) (w':=w) hrel hval (λ_ _ _=>rfl) (.inr ⟨v.length,f,rfl,zzL6 _,λ_=>hvθ.symm⟩)
   (λ_ _ _=>rfl) rfl rfl rfl (zzL6 _) (λhh=>by cases hh)
   (λg' c' hh=>by
    obtain⟨rfl,rfl⟩:=Prod.mk.inj (OI hh);refine⟨vcur,hvh,hvc,‹_›,by rw[hvs',Uh],λ_ _=>rfl,λi j hi hj=>?_,hvI⟩
    obtain rfl:j=0:=by omega
    have:=hvcell i hi;rw[Nf _ _ _ vcur 3 (0,0) hvh]at this;rw[Uh,Nd,Rl,this]
    exact⟨rfl,λ_=>.val _ _ (.int _ _)⟩)
   (λg' c' hh=>by
    obtain⟨rfl,rfl⟩:=Prod.mk.inj (OI hh)
    exact .inr ⟨(λhh=>by cases hh),vc,hvθ⟩)
  rw[Wz hvθ]at this;rw[hown1];exact this
 have ho0:own1 34000=some (.arr 1 3 l.length (λi=>[.int .i64 (l.getD i 0)])):=by rw[hown1];rfl
 have ho2:own1 34002≠none:=by rw[hown1];intro hh;cases hh
 have hH:∀ x,Au own1 34000 (.arr 1 3 r.length x)=Aj [(34000,Own.arr 1 3 r.length x),(34002,Own.arr 1 3 v.length (λi=>[.int .i64 (v.getD i 0)]))]:=λx=>by
  rw[hown1]
  funext nm
  simp only[Au,Aj]
  by_cases h1:nm=34000
  ·subst h1;rfl
  ·by_cases h2:nm=34002
   ·subst h2;rfl
   ·have e1:Nat.beq 34000 nm=false:=by cases e:Nat.beq 34000 nm;rfl;exact absurd (C4 e).symm h1
    have e2:Nat.beq 34002 nm=false:=by cases e:Nat.beq 34002 nm;rfl;exact absurd (C4 e).symm h2
    simp[h1,h2,e1,e2]
 have fin:∀(g c:Nat) (w':World) (e:Ending),r.length<=c->c<=maxLen->Lk w w' g->UQ w' g c->(∀ j,j<r.length->w'.cell? ⟨g,j,none⟩=some (.int .i64 (r.getD j 0)))->(∀ j,¬ I g j)->(w.heap.size<=g\/∃ c',θ 34000=some (g,c'))->e = .returned (.slice (some ⟨g,0,none⟩) (l.length+v.length) c)->
   ∃ v' I' θ',e = .returned v'/\Chg (Aj [(34000,Own.arr 1 3 l.length (λi=>[.int .i64 (l.getD i 0)])),(34002,Own.arr 1 3 v.length f)]) θ I w (Aj [(34000,Own.arr 1 3 r.length (λi=>[.int .i64 (r.getD i 0)])),(34002,Own.arr 1 3 v.length (λi=>[.int .i64 (v.getD i 0)]))]) θ' I' w' /\
    Rep I' (Aj [(34000,Own.arr 1 3 r.length (λi=>[.int .i64 (r.getD i 0)])),(34002,Own.arr 1 3 v.length (λi=>[.int .i64 (v.getD i 0)]))]) θ' w' v' (.vsl 34000 r.length):=by
  intro g c w' e hc hmx hlk hblk hcell hI hg he;obtain⟨v',θ',e1,e2,e3⟩:=f9 (r:=r) hk1.rel hk1.valid ho0 (by omega) hc hmx hlk hblk hcell hI hg;rw[hH]at e2 e3;exact⟨v',I,θ',by rw[he,<- e1,hrl],hk1.trans e2,e3⟩
 have hNI:∀ j,¬ I w.heap.size j:=λj hj=>by
  obtain⟨u,hu⟩:=hval _ _ hj;have:=Of hu;simp at this
 have h1v:=dt v;have hvl:(v.map (Value.int .i64)).length=v.length:=Dx ..
 have hbig:(l.length+v.length)*8<=140737488355328:=by omega
 rcases rowI_at hk1.rel rfl ho0 (λ_ _=>rfl) (h1.mono (λ_ _ h=>h) (λ_ _ _=>rfl) hk1.le) with⟨_,rfl,a,rfl⟩|⟨g,c,hθ,rfl,hc,hcm,hB,hcell,hI⟩
 ·
  obtain rfl:k=0:=by simp at hkn;omega
  refine(Any2.slices_Insert_int_end_grow HJ a 0 0 vg 0 v.length vc [] (v.map (Value.int .i64)) w hm (zzL6 _) (by omega) (by simpa using hbig) rfl hvl (λ_=>rfl) (λ_ _ _ _ h=>by simp at h) (hvs w λ_=>rfl) h1v).mono λe w' ⟨he,hw⟩=>?_;subst hw;have hG:=grownCap_ge w (0+v.length) 0 (insRen.t 3);have hGm:grownCap w (0+v.length) 0 (insRen.t 3)<=maxLen:=grownCap_le_maxLen _ _ _ _ (by unfold maxLen;omega);simp only[List.length_nil]at he ⊢ hrl
  generalize grownCap w (0+v.length) 0 (insRen.t 3)=G at hG hGm he ⊢
  refine fin w.heap.size G _ e (by omega) hGm ((DH w _).trans (QO (zzL6 _))) ?_ (λj hj=>?_) hNI (.inl (zzL6 _)) he
  ·have:=JA (w:=w.drew) (([]++v.map (Value.int .i64)).toArray++Builtin.zeroCells (Value.int .i64 0).cells (G-(0+v.length)))
   have e:(([]++v.map (Value.int .i64)).toArray++Builtin.zeroCells (Value.int .i64 0).cells (G-(0+v.length))).size=G:=by
    simp[Builtin.zeroCells,Value.cells];omega
   rw[e]at this;exact this
  ·have e:=World.cell?_alloc_at (w:=w.drew) (([]++v.map (Value.int .i64)).toArray++Builtin.zeroCells (Value.int .i64 0).cells (G-(0+v.length))) (insRen.t 3) w.heap.size j rfl;rw[e,Zc,ZQ _ _ (by rw[hvl];omega),S9 _ (by omega)];have:=hr2 j (by omega);rw[E6]at this;rw[this]
 ·have hcl:(l.map (Value.int .i64)).length=l.length:=Dx ..;have h1c:=dt l
  have hc63:c<=9223372036854775807:=by unfold maxLen at hcm;exact hcm
  have hcs:∀ j u,(l.map (Value.int .i64))[j]?=some u->w.cell? ⟨g,0+j,none⟩=some u:=λj u hj=>by
   obtain⟨h1,rfl⟩:=jV hj;rw[E6,hcell j h1]
  have hgv:vg≠g:=λe=>by
   subst e;have:=hrel.inj 34000 34002 vg c vc (by intro hh;cases hh) (by intro hh;cases hh) hθ hvθ
   cases this
  by_cases hroomc:l.length+v.length<=c
  ·by_cases hke:k=l.length
   ·subst hke;refine(Any2.slices_Insert_int_end_room HJ g 0 l.length c vg 0 v.length vc (v.map (Value.int .i64)) w hm hroomc hc63 hvl (λj hj=>PD hB (by omega)) (λj hj=>NY hB _) (hvs w λ_=>rfl) h1v).mono λe w' ⟨he,hw⟩=>?_;subst hw;have hlk:=Wi g (v.map (Value.int .i64)) (0+l.length) w;refine fin g c _ e (by omega) hcm hlk (hlk.blk c hB) (λj hj=>?_) hI (.inr ⟨c,hθ⟩) he;rw[AP hB (by rw[hvl];omega),hvl]
    split
    ·rw[S9 _ (by omega),<- hr2 _ (by omega)];congr 3;omega
    ·rw[hcell j (by omega),hr1 j (by omega)]
   ·refine(Any2.slices_Insert_int_shift HJ g 0 l.length c k vg 0 v.length vc (l.map (Value.int .i64)) (v.map (Value.int .i64)) w (by omega) hm hroomc hc63 hgv hcl hvl hcs (λj hj=>PD hB (by omega)) (λj hj=>NY hB _) (hvs w λ_=>rfl) h1c h1v
     3 3 vc c ?_ ?_ (by omega) ?_ ?_).mono λe w' ⟨he,hw⟩=>?_
    ·simp[World.shape?,hvh,hvs']
    ·obtain⟨cur,q1,q2⟩:=hB;simp[World.shape?,q1,q2]
    ·exact NY ⟨vcur,hvh,hvs'⟩ _
    ·exact NY ⟨vcur,hvh,hvs'⟩ _
    subst hw;have hl1:=(DH w g).trans (Wi g ((l.map (Value.int .i64)).drop k) (0+(k+v.length)) w.drew);have hB0:=(DH w g).blk c hB;have hB1:=hl1.blk c hB;have hl2:=hl1.trans (Wi g (v.map (Value.int .i64)) (0+k) _);refine fin g c _ e (by omega) hcm hl2 (hl2.blk c hB) (λj hj=>?_) hI (.inr ⟨c,hθ⟩) he;rw[AP hB1 (by rw[hvl];omega),hvl,AP hB0 (by rw[CH,hcl];omega),CH,hcl]
    split
    ·rw[S9 _ (by omega),<- hr2 _ (by omega)];congr 3;omega
    ·split
     ·rw[II,S9 _ (by omega),hr3 j (by omega)];congr 3;omega
     ·show w.cell? _=_
      rw[hcell j (by omega),hr1 j (by omega)]
  ·have hG:=grownCap_ge w (l.length+v.length) c (insRen.t 3);have hGm:grownCap w (l.length+v.length) c (insRen.t 3)<=maxLen:=grownCap_le_maxLen _ _ _ _ (by unfold maxLen;omega)
   by_cases hke:k=l.length
   ·subst hke
    refine(Any2.slices_Insert_int_end_grow HJ (some ⟨g,0,none⟩) l.length c vg 0 v.length vc (l.map (Value.int .i64)) (v.map (Value.int .i64)) w hm hc (by omega) hbig hcl hvl (λh=>by cases h) (λa ha j u hj=>by
     obtain rfl:=OI ha
     rw[O9];exact hcs j u hj) (hvs w λ_=>rfl) h1v).mono λe w' ⟨he,hw⟩=>?_
    subst hw
    generalize grownCap w (l.length+v.length) c (insRen.t 3)=G at hG hGm he ⊢
    refine fin w.heap.size G _ e (by omega) hGm ((DH w _).trans (QO (zzL6 _))) ?_ (λj hj=>?_) hNI (.inl (zzL6 _)) he
    ·have:=JA (w:=w.drew) ((l.map (Value.int .i64)++v.map (Value.int .i64)).toArray++Builtin.zeroCells (Value.int .i64 0).cells (G-(l.length+v.length)))
     have e:((l.map (Value.int .i64)++v.map (Value.int .i64)).toArray++Builtin.zeroCells (Value.int .i64 0).cells (G-(l.length+v.length))).size=G:=by
      simp[Builtin.zeroCells,Value.cells];omega
     rw[e]at this;exact this
    ·have e:=World.cell?_alloc_at (w:=w.drew) ((l.map (Value.int .i64)++v.map (Value.int .i64)).toArray++Builtin.zeroCells (Value.int .i64 0).cells (G-(l.length+v.length))) (insRen.t 3) w.heap.size j rfl;rw[e,ZQ _ _ (by rw[Fe,hcl,hvl];omega)]
     by_cases hj1:j<l.length
     ·rw[Ug (by omega),S9 _ hj1,hr1 j hj1]
     ·rw[Ve (by omega),hcl,S9 _ (by omega),<- hr2 _ (by omega)];congr 3;omega
   ·refine(Any2.slices_Insert_int_grow HJ g 0 l.length c k vg 0 v.length vc (l.map (Value.int .i64)) (v.map (Value.int .i64)) w (by omega) hm hc (by omega) hbig hcl hvl hcs (hvs w λ_=>rfl) h1c h1v).mono λe w' ⟨he,hw⟩=>?_;subst hw
    generalize grownCap w (l.length+v.length) c (insRen.t 3)=G at hG hGm he ⊢
    generalize hA:((l.map (Value.int .i64)).take k).toArray++Builtin.zeroCells (Value.int .i64 0).cells (l.length+v.length-k)++Builtin.zeroCells (Value.int .i64 0).cells (G-(l.length+v.length))=A
    have hAs:A.size=G:=by rw[<- hA];simp[Builtin.zeroCells,Value.cells];omega
    have b0:UQ (w.alloc (.cells A 3)) w.heap.size G:=by have:=JA (w:=w) A;rwa[hAs]at this
    have k0:Lk w (w.alloc (.cells A 3)) w.heap.size:=QO (zzL6 _);have k1:=(DH (w.alloc (.cells A 3)) w.heap.size);have b1:=k1.blk G b0;have k2:=Wi w.heap.size (v.map (Value.int .i64)) k (w.alloc (.cells A 3)).drew;have b2:=k2.blk G b1;have k3:=DH ((w.alloc (.cells A 3)).drew.setCells w.heap.size k (v.map (Value.int .i64))) w.heap.size;have b3:=k3.blk G b2;have k4:=Wi w.heap.size ((l.map (Value.int .i64)).drop k) (k+v.length) ((w.alloc (.cells A 3)).drew.setCells w.heap.size k (v.map (Value.int .i64))).drew;refine fin w.heap.size G _ e (by omega) hGm ((((k0.trans k1).trans k2).trans k3).trans k4) (k4.blk G b3) (λj hj=>?_) hNI (.inl (zzL6 _)) he
    show(((w.alloc (Obj.cells A 3)).drew.setCells w.heap.size k (v.map (Value.int .i64))).drew.setCells w.heap.size (k+v.length) ((l.map (Value.int .i64)).drop k)).cell? ⟨w.heap.size,j,none⟩=_
    rw[AP b3 (by rw[CH,hcl];omega),CH,hcl]
    split
    ·rw[II,S9 _ (by omega),hr3 j (by omega)];congr 3;omega
    ·show((w.alloc (Obj.cells A 3)).drew.setCells w.heap.size k (v.map (Value.int .i64))).cell? ⟨w.heap.size,j,none⟩=_
     rw[AP b1 (by rw[hvl];omega),hvl]
     split
     ·rw[S9 _ (by omega),<- hr2 _ (by omega)];congr 3;omega
     ·have e:=World.cell?_alloc_at (w:=w) A 3 w.heap.size j rfl
      show(w.alloc (.cells A 3)).cell? _=_
      rw[e,<- hA,Array.append_assoc,ZQ _ _ (by rw[W6,hcl];omega),List.getElem?_take_of_lt (by omega),S9 _ (by omega),hr1 j (by omega)]
def dF:Go.Shelf.Ren:=⟨fun|189=>190|125=>233|257=>232|128=>273|129=>274|294=>265|295=>266|296=>267|297=>268|298=>269|299=>270|216=>234|300=>271|301=>272|328=>286|329=>287|330=>288|331=>289|332=>290|215=>275|343=>295|n=>n,fun|28=>22|3=>3|46=>239|0=>0|51=>256|53=>44|4=>4|183=>269|182=>268|131=>186|5=>5|9=>9|218=>277|222=>281|228=>285|229=>149|n=>n,fun|n=>n⟩
theorem jm:Go.Proofs.Lays.n189 Tryz.prog dF:={
 mixed:=by kernel_rfl
 f125:=Tryz.func233.trans (Bi some (by kernel_rfl))
 f128:=Tryz.func273.trans (Bi some (by kernel_rfl))
 f129:=Tryz.func274.trans (Bi some (by kernel_rfl))
 f189:=Tryz.func190.trans (Bi some (by kernel_rfl))
 f215:=Tryz.func275.trans (Bi some (by kernel_rfl))
 f216:=Tryz.func234.trans (Bi some (by kernel_rfl))
 f257:=Tryz.func232.trans (Bi some (by kernel_rfl))
 f294:=Tryz.func265.trans (Bi some (by kernel_rfl))
 f295:=Tryz.func266.trans (Bi some (by kernel_rfl))
 f296:=Tryz.func267.trans (Bi some (by kernel_rfl))
 f297:=Tryz.func268.trans (Bi some (by kernel_rfl))
 f298:=Tryz.func269.trans (Bi some (by kernel_rfl))
 f299:=Tryz.func270.trans (Bi some (by kernel_rfl))
 f300:=Tryz.func271.trans (Bi some (by kernel_rfl))
 f301:=Tryz.func272.trans (Bi some (by kernel_rfl))
 f328:=Tryz.func286.trans (Bi some (by kernel_rfl))
 f329:=Tryz.func287.trans (Bi some (by kernel_rfl))
 f330:=Tryz.func288.trans (Bi some (by kernel_rfl))
 f331:=Tryz.func289.trans (Bi some (by kernel_rfl))
 f332:=Tryz.func290.trans (Bi some (by kernel_rfl))
 f343:=Tryz.func295.trans (Bi some (by kernel_rfl))
 t0:=Tryz.underlying0
 a0:=Tryz.isAgg0
 z0:=Tryz.sizeOf0
 v0:=Tryz.zeroValue0
 t3:=Tryz.underlying3
 a3:=Tryz.isAgg3
 z3:=Tryz.sizeOf3
 v3:=Tryz.zeroValue3
 t4:=Tryz.underlying4
 a4:=Tryz.isAgg4
 z4:=Tryz.sizeOf4
 v4:=Tryz.zeroValue4
 t5:=Tryz.underlying5
 a5:=Tryz.isAgg5
 z5:=Tryz.sizeOf5
 v5:=Tryz.zeroValue5
 t9:=Tryz.underlying9
 a9:=Tryz.isAgg9
 z9:=Tryz.sizeOf9
 v9:=Tryz.zeroValue9
 t28:=Tryz.underlying22
 a28:=Tryz.isAgg22
 z28:=Tryz.sizeOf22
 v28:=Tryz.zeroValue22
 t46:=Tryz.underlying239
 a46:=Tryz.isAgg239
 z46:=Tryz.sizeOf239
 v46:=Tryz.zeroValue239
 t51:=Tryz.underlying256
 a51:=Tryz.isAgg256
 z51:=Tryz.sizeOf256
 v51:=Tryz.zeroValue256
 t53:=Tryz.underlying44
 a53:=Tryz.isAgg44
 z53:=Tryz.sizeOf44
 v53:=Tryz.zeroValue44
 t131:=Tryz.underlying186
 a131:=Tryz.isAgg186
 z131:=Tryz.sizeOf186
 v131:=Tryz.zeroValue186
 t182:=Tryz.underlying268
 a182:=Tryz.isAgg268
 z182:=Tryz.sizeOf268
 v182:=Tryz.zeroValue268
 t183:=Tryz.underlying269
 a183:=Tryz.isAgg269
 z183:=Tryz.sizeOf269
 v183:=Tryz.zeroValue269
 t218:=Tryz.underlying277
 a218:=Tryz.isAgg277
 z218:=Tryz.sizeOf277
 v218:=Tryz.zeroValue277
 t222:=Tryz.underlying281
 a222:=Tryz.isAgg281
 z222:=Tryz.sizeOf281
 v222:=Tryz.zeroValue281
 t228:=Tryz.underlying285
 a228:=Tryz.isAgg285
 z228:=Tryz.sizeOf285
 v228:=Tryz.zeroValue285
 t229:=Tryz.underlying149
 a229:=Tryz.isAgg149
 z229:=Tryz.sizeOf149
 v229:=Tryz.zeroValue149 }
def VE:Go.Shelf.Ren:=⟨fun|15=>189|n=>n,fun|22=>22|3=>3|4=>4|n=>n,fun|n=>n⟩
theorem JL:Go.Proofs.Lays2.n15 Tryz.prog VE:={
 mixed:=by kernel_rfl
 f15:=Tryz.func189.trans (Bi some (by kernel_rfl))
 t3:=Tryz.underlying3
 a3:=Tryz.isAgg3
 z3:=Tryz.sizeOf3
 v3:=Tryz.zeroValue3
 t4:=Tryz.underlying4
 a4:=Tryz.isAgg4
 z4:=Tryz.sizeOf4
 v4:=Tryz.zeroValue4
 t22:=Tryz.underlying22
 a22:=Tryz.isAgg22
 z22:=Tryz.sizeOf22
 v22:=Tryz.zeroValue22
 i3:=by kernel_rfl }
def VF:Go.Shelf.Ren:=⟨fun|20=>191|n=>n,fun|22=>22|3=>3|4=>4|0=>0|n=>n,fun|n=>n⟩
theorem XF:Go.Proofs.Lays2.n20 Tryz.prog VF:={
 mixed:=by kernel_rfl
 f20:=Tryz.func191.trans (Bi some (by kernel_rfl))
 t0:=Tryz.underlying0
 a0:=Tryz.isAgg0
 z0:=Tryz.sizeOf0
 v0:=Tryz.zeroValue0
 t3:=Tryz.underlying3
 a3:=Tryz.isAgg3
 z3:=Tryz.sizeOf3
 v3:=Tryz.zeroValue3
 t4:=Tryz.underlying4
 a4:=Tryz.isAgg4
 z4:=Tryz.sizeOf4
 v4:=Tryz.zeroValue4
 t22:=Tryz.underlying22
 a22:=Tryz.isAgg22
 z22:=Tryz.sizeOf22
 v22:=Tryz.zeroValue22
 i3:=by kernel_rfl }
open Go.Sort
section
variable {I:Nat->Nat->Prop} {θ:Nat->Option (Nat×Nat)} {w w':World}
theorem gz(I:Nat->Nat->Prop)(θ:Nat->Option (Nat×Nat))(w:World):Jk I (Aj []) θ w:=
 ⟨(λ_ _ _ h=>by cases h),(λ_ _ _ _ h=>by cases h),(λ_ _ _ _ _ h=>(h rfl).elim),(λ_ _ _ _ _ h=>by cases h),(λ_ _ h=>by cases h),(λ_ _ _ h=>by cases h)⟩
theorem qR{own:Nat->Option Own}{zs:Array Value}{x:AV}(h:RepL I own θ w zs.toList [x]):∃ v,zs = #[v]/\Rep I own θ w v x:=by
 obtain⟨l⟩:=zs
 cases h with
 | cons h1 h2=>cases h2;exact⟨_,rfl,h1⟩
theorem ED(hb:Below w.heap.size w w')(hval:∀ b o,I b o->∃ u,w.cell? ⟨b,o,none⟩=some u){N:Nat->Nat->Prop}(hN:∀ b o,N b o->w.heap.size<=b/\∃ u,w'.cell? ⟨b,o,none⟩=some u) :
  Chg (Aj []) θ I w (Aj []) θ (λb o=>I b o\/N b o) w':=
 have hcell:∀ b o,I b o->w'.cell? ⟨b,o,none⟩=w.cell? ⟨b,o,none⟩:=λb o hi=>by
  obtain⟨u,hu⟩:=hval b o hi;exact ET (a:=⟨b,o,none⟩) (hb.block b (Of hu))
 {imm:=λ_ _ h=>.inl h,cell:=hcell,le:=λ_ _ h=>(by cases h),rel:=gz _ _ _,
  valid:=λb o hi=>by
   rcases hi with hi|hi
   ·obtain⟨u,hu⟩:=hval b o hi;exact⟨u,(hcell b o hi).trans hu⟩
   ·exact(hN b o hi).2,
  os:=hb.os,tape:=hb.tape,output:=hb.output,drawn:=λh=>h.elim,grow:=hb.size,frame:=λb hlt _=>hb.block b hlt,new:=λ_ _ _ h=>(h rfl).elim,
  immNew:=λb o hi=>by
   rcases hi with hi|hi
   ·exact .inl hi
   ·exact .inr (.inl (hN b o hi).1) }
end
theorem GS{w W:World}{g n:Nat}{os:Array Obj}{d:Array Int}(hb:Below w.heap.size w W)(hg:w.heap.size<=g):Below w.heap.size w (grow (putRow (Value.int .i64) (Sort.ahead W n) g 0 d) os):=by
 have k:=grownBy_sortedI (w:=W) (g:=g) (n:=n) (os:=os) d;refine hb.trans ⟨k.os,k.tape,k.output,k.size,λb hlt=>k.block b (Nat.lt_of_lt_of_le hlt hb.size) (λe=>?_)⟩;have:=OI e;omega
def ZI(w W:World)(g cap n:Nat)(zs:List Int):Prop:=
 Below w.heap.size w W/\w.heap.size<=g/\∃ cur,W.heap[g]?=some (.cells cur 3 (0,0))/\n<=cap/\cap<=maxLen/\cur.size=cap/\cur.toList.take zs.length=zs.map (Value.int .i64)/\zs.length=n
theorem j8{w W:World}{v:Value}{n:Nat}{zs:List Int}(h:W.ownsRow w.heap.size 3 1 v n (zs.map (Value.int .i64)))(hne:v≠.slice none 0 0)(hb:Below w.heap.size w W):∃ g cap,v = .slice (some ⟨g,0,none⟩) n cap/\ZI w W g cap n zs:=by
 have hl:zs.length=n:=by have:=h.1;simpa using this
 rcases h.2 with⟨rfl,_⟩|⟨g,cap,cur,rfl,hg,hcur,hcap,hmax,hsz,ht⟩
 ·exact(hne rfl).elim
 ·rw[Uh]at hsz ht;exact⟨g,cap,rfl,hb,hg,cur,hcur,hcap,hmax,hsz,by rw[hl];exact ht,hl⟩
theorem om(ad:Addr)(c:Nat)(w:World):Calls Tryz.prog 189 #[.slice (some ad) 0 c] w λe W=>∃ g cap,e = .returned (.slice (some ⟨g,0,none⟩) 0 cap)/\ZI w W g cap 0 []:=
 (Any.slices_Clone_int_zero JL ad c w).mono λe W ⟨v,he,hown,hne,hb⟩=>by
  obtain⟨g,cap,rfl,h⟩:=j8 (zs:=[]) hown hne hb;exact⟨g,cap,he,h⟩
theorem sx(b off n c:Nat)(zs:List Int)(w:World)(hz:zs.length=n)(hbig:n<=17592186044416)(hc:∀ j,j<n->w.cell? ⟨b,off+j,none⟩=some (.int .i64 (zs.getD j 0))) :
  Calls Tryz.prog 189 #[.slice (some ⟨b,off,none⟩) n c] w λe W=>∃ g cap,e = .returned (.slice (some ⟨g,0,none⟩) n cap)/\ZI w W g cap n zs:=
 (Any.slices_Clone_int JL b off n c zs w (by omega) (by omega) (λj hj=>hc j (by omega))).mono λe W ⟨v,he,hown,hne,hb⟩=>by
  rw[show zs.take n=zs by rw[<- hz];exact W7 ..]at hown;obtain⟨g,cap,rfl,h⟩:=j8 hown hne hb;exact⟨g,cap,he,h⟩
theorem wi{w W:World}{g cap n:Nat}{zs:List Int}(h:ZI w W g cap n zs)(hbig:n<=17592186044416):Calls Tryz.prog 190 #[.slice (some ⟨g,0,none⟩) n cap] W λe W2=>e = .returned (.tuple #[])/\ZI w W2 g cap n (zs.mergeSort λx y=>decide (x<=y)):=by
 obtain⟨hb,hg,cur,hcur,hcap,hmax,hsz,ht,rfl⟩:=h;refine(Any.slices_Sort_int jm g 0 cap zs W (holds_of_blockI hcur ht) (HH hcur) (by omega)).mono λe W2 ⟨he,q,os,hW⟩=>⟨he,?_⟩;subst hW;have hl:(zs.mergeSort λx y=>decide (x<=y)).length=zs.length:=List.length_mergeSort ..;have b2:=GS (n:=q) (os:=os) (d:=(zs.mergeSort λx y=>decide (x<=y)).toArray) hb hg;exact⟨b2,hg,_,heap_sortedI _ hcur,hcap,hmax,by simp[putCells,hsz],take_putCellsI cur _ (by omega),hl⟩
theorem lW{w W:World}{g cap n:Nat}{zs:List Int}(h:ZI w W g cap n zs)(hbig:n<=17592186044416):Calls Tryz.prog 191 #[.slice (some ⟨g,0,none⟩) n cap] W λe W2=>e = .returned (.slice (some ⟨g,0,none⟩) (Lib.compact zs).length cap)/\ZI w W2 g cap (Lib.compact zs).length (Lib.compact zs):=by
 obtain⟨hb,hg,cur,hcur,hcap,hmax,hsz,ht,rfl⟩:=h;refine(Any.slices_Compact_int XF g 0 cap zs W (holds_of_blockI hcur ht) (by omega) hcap).mono λe W2 ⟨he,q,hW⟩=>⟨he,?_⟩;subst hW;have hcl:=Lib.compact_length_le zs
 generalize Lib.compact zs=cs at hcl ⊢
 generalize hts:cs++List.replicate (zs.length-cs.length) (0:Int)=ts
 have htl:ts.length=zs.length:=by rw[<- hts,Fe,Oa];omega
 have b2:=GS (n:=q) (os:=#[]) (d:=ts.toArray) hb hg;have h2:=heap_sortedI (n:=q) (os:=#[]) ts.toArray hcur;rw[grow_empty]at b2 h2;have h3:=take_putCellsI cur ts (by omega);refine⟨b2,hg,_,h2,by omega,hmax,by simp[putCells,hsz],?_,rfl⟩;have:=Bi (List.take cs.length) h3;rw[List.take_take,Nat.min_eq_left (by omega),<- List.map_take,<- hts,List.take_left' rfl]at this;rw[<- hts];exact this
def rm(w w':World)(v:Value)(r:List Int):Prop:=
 (v = .slice none 0 0/\r=[])\/∃ g cap,v = .slice (some ⟨g,0,none⟩) r.length cap/\ZI w w' g cap r.length r
set_option maxHeartbeats 4000000 in
set_option maxRecDepth 100000 in
theorem qp(a:Option Addr)(n c:Nat)(zs:List Int)(w:World)(hz:zs.length=n)(hn:a=none->n=0)(hbig:n<=17592186044416)
  (hc:0<n->∃ b off,a=some ⟨b,off,none⟩/\∀ j,j<n->w.cell? ⟨b,off+j,none⟩=some (.int .i64 (zs.getD j 0))) :
  Calls Tryz.prog 137 #[.slice a n c] w λe w'=>∃ v,e = .returned v/\Below w.heap.size w w'/\rm w w' v (Lib.compact (zs.mergeSort λx y=>decide (x<=y))):=by
 cases a with
 | none=>
  obtain rfl:=hn rfl;obtain rfl:zs=[]:=zzL94.1 hz
  have hr:Lib.compact (([]:List Int).mergeSort λx y=>decide (x<=y))=[]:=by simp[Lib.compact,Lib.compactUpTo]
  rw[hr];have h1:Calls Tryz.prog 189 #[.slice none 0 c] w λe w'=>e = .returned (.slice none 0 0)/\w'=w:=Any.slices_Clone_int_nil JL 0 c w;have h2:Calls Tryz.prog 190 #[.slice none 0 0] w λe w'=>e = .returned (.tuple #[])/\w'=w:=Any.slices_Sort_int_none jm none 0 w;have h3:Calls Tryz.prog 191 #[.slice none 0 0] w λe w'=>e = .returned (.slice none 0 0)/\w'=w:=Any.slices_Compact_int_empty XF none 0 w
  go_enter Tryz.func137,Tryz.ntmps137
  go_wp2_with (first
   | (go_at_call 189;refine h1.mono ?_;rintro e W ⟨rfl,rfl⟩)
   | (go_at_call 190;refine h2.mono ?_;rintro e W ⟨rfl,rfl⟩)
   | (go_at_call 191;refine h3.mono ?_;rintro e W ⟨rfl,rfl⟩))
  go_ret
  exact⟨_,rfl,Below.refl _ _,.inl ⟨rfl,rfl⟩⟩
 | some ad=>
  have h1:Calls Tryz.prog 189 #[.slice (some ad) n c] w λe W=>∃ g cap,e = .returned (.slice (some ⟨g,0,none⟩) n cap)/\ZI w W g cap n zs:=by
   by_cases h0:n=0
   ·subst h0;obtain rfl:zs=[]:=zzL94.1 hz;exact om ad c w
   ·obtain⟨b,off,hab,hcell⟩:=hc (by omega);obtain rfl:=OI hab;exact sx b off n c zs w hz hbig hcell
  go_enter Tryz.func137,Tryz.ntmps137
  go_wp2_with (first
   | (go_at_call 189;refine h1.mono ?_;rintro e W ⟨g,cap,rfl,hO⟩)
   | (go_at_call 190;refine(wi hO hbig).mono ?_;rintro e W2 ⟨rfl,hO2⟩)
   | (go_at_call 191;refine(lW hO2 hbig).mono ?_;rintro e W3 ⟨rfl,hO3⟩))
  go_ret
  exact⟨_,rfl,hO3.1,.inr ⟨_,_,rfl,hO3⟩⟩
def f8(x:Int):List Int->List Int
 | []=>[x]
 | y::l=>if x<=y then x::y::l else y::f8 x l
def pU:List Int->List Int
 | []=>[]
 | x::l=>f8 x (pU l)
theorem insI_perm(x:Int):∀ l,(f8 x l).Perm (x::l)
 | []=>.refl _
 | y::l=>by
  unfold f8
  split
  ·exact .refl _
  ·exact((insI_perm x l).cons y).trans (.swap x y l)
theorem jg{x:Int}:∀{l:List Int},l.Pairwise (·<=·)->(f8 x l).Pairwise (·<=·)
 | [],_=>by simp[f8]
 | y::l,h=>by
  have h':=zzL76.1 h;unfold f8
  split
  ·rename_i hxy
   exact zzL76.2 ⟨λz hz=>by
    rcases zzL34.1 hz with rfl|hz
    ·exact hxy
    ·exact Int.le_trans hxy (h'.1 z hz),h⟩
  ·rename_i hxy
   refine zzL76.2 ⟨λz hz=>?_,jg h'.2⟩;rcases zzL34.1 ((insI_perm x l).mem_iff.1 hz) with rfl|hz
   ·omega
   ·exact h'.1 z hz
theorem XD:∀ l,(pU l).Perm l
 | []=>.refl _
 | x::l=>(insI_perm x _).trans ((XD l).cons x)
theorem ji:∀ l,(pU l).Pairwise (·<=·)
 | []=>.nil
 | x::l=>jg (ji l)
theorem jh(l:List Int):pU l=l.mergeSort λx y=>decide (x<=y):=by
 refine List.Perm.eq_of_pairwise (le:=(·<=·)) (λa b _ _ h1 h2=>Int.le_antisymm h1 h2) (ji l) ?_ ((XD l).trans (List.mergeSort_perm l _).symm);have:=List.pairwise_mergeSort (le:=λ(x y:Int)=>decide (x<=y)) (λa b c h1 h2=>by simp at *;omega) (λa b=>by simp;omega) l
 exact this.imp λh=>by simpa using h
def IH(l:List Int):Option (List Int):=Az (l.length<=17592186044416) (some (Lib.compact (pU l)))
theorem iP(l r:List Int)(h:IH l=some r):Spec Tryz.prog 137 [AV.list 1 (λx=>[.int .i64 x]) (0:Int) l .none] [] (AV.list 1 (λx=>[.int .i64 x]) (0:Int) r .none) []:=by
 obtain⟨hlen,h⟩:=Qh h;rw[jh]at h;obtain rfl:=OI h;refine⟨enters_of Tryz.func137 (by kernel_rfl) rfl,λw I θ zs hargs _ hval _=>?_⟩;obtain⟨v,rfl,hv⟩:=qR hargs;obtain⟨_,a,cap,us,rfl,hcap,hmax,hz,hnn,h1,hl,hr⟩:=hv.slice_val.slice_inv
 have hint:∀ i,i<l.length->us i = .int .i64 (l.getD i 0):=λi hi=>by
  have:=hr i 0 hi (by omega);rw[Uh,Nd]at this;have h2:RepV I w (us i) (.int .i64 (l.getD i 0)):=this;exact Rep.int_inv (own:=Aj []) (θ:=θ) (.val _ _ h2)
 refine(qp a l.length cap l w rfl (λha=>by have:=hnn ha;omega) hlen (λhp=>?_)).mono λe w' ⟨v,he,hb,hout⟩=>?_
 ·obtain⟨b,rfl,hs,_,hcell⟩:=hz hp;obtain⟨blk,off,spot⟩:=b;simp only at hs hcell;subst hs;exact⟨blk,off,rfl,λj hj=>by rw[hcell j (by omega),hint j hj]⟩
 ·generalize Lib.compact (l.mergeSort λx y=>decide (x<=y))=r at hout ⊢
  rcases hout with⟨rfl,rfl⟩|⟨g,cap',rfl,_,hg,cur,hcur,hc1,hc2,hc3,htake,_⟩
  ·exact⟨_,_,θ,he,ED hb hval (N:=λ_ _=>False) (λ_ _ h=>h.elim),.val _ _ (.slice none 0 0 1 _ (λ_=>undef) (zzL6 _) (P4 _) (λh=>by cases h) (λ_=>rfl) (λj hj=>by simp at hj) (λi hi=>by cases hi) (λi c hi=>by cases hi))⟩
  ·have hcell:∀ j,j<r.length->w'.cell? ⟨g,j,none⟩=some (.int .i64 (r.getD j 0)):=λj hj=>by
    rw[Nf _ _ _ cur 3 (0,0) hcur]
    have h2:(cur.toList.take r.length)[j]?=(r.map (Value.int .i64))[j]?:=by rw[htake]
    rw[List.getElem?_take_of_lt hj,Array.getElem?_toList]at h2;rw[h2];simp[List.getD,hj]
   refine⟨_,_,θ,he,ED hb hval (N:=λb o=>b=g/\o<r.length) (λb o ⟨hbg,ho⟩=>⟨by omega,by subst hbg;exact⟨_,hcell o ho⟩⟩),.val _ _ (.slice (some ⟨g,0,none⟩) r.length cap' 1 _ (λj=>.int .i64 (r.getD j 0)) hc1 hc2 (λ_=>⟨⟨g,0,none⟩,rfl,rfl,λj hj=>.inr ⟨rfl,by simpa using hj⟩,λj hj=>by rw[E6];exact hcell j (by omega)⟩) (λh=>by cases h) (λ_ _=>rfl) (λ_ _=>rfl) (λi c hi hc=>?_))⟩
   obtain rfl:c=0:=by omega
   rw[Uh,Nd];exact .int _ _
abbrev Ax:=List Int
abbrev Oe:=List (List Int)
def Iz:=[30000,37006,9100005]
def EA:=[(30000,30000),(37006,37006),(9100005,9100005)]
def I6:=[30000,37006]
def S0:=[3,30000,37006,9100005]
def P9:=[2,5,6,25,36007]
def Jw:=[1,5,5003]
def V9:=[6,30000,37006,9100005]
def So:=[10,30000,9100002]
def H3:=[1,3,4]
def UL:=[3,4,30000,36005,36006,9100002]
def Zd:=[(30000,30000),(37006,37006)]
def Jv:=[1,3,4,5]
def Cy:=[2,3]
def Ka:=[2,13,21]
def CN:=[3,4,15,34,30000,9100002]
def Rb:=[8,30000,37006]
def Ea:=[1,2]
def Ng:=[1,7,8,9]
def Ze:=[30000,37006,13000005]
def CQ:=[3,4,15,30000,9100002]
def IK:=[3,5,30000,37006,9100005]
def IL:=[0,4,6,21,22,30,31,32]
def S5:=[30000,9100002]
def Sn:=[1,3,4,5,6]
def Gm:=[0,1]
def EY:=[2,5,6,7,26,27,28]
def Vi:=[2,7,77,70077]
def Ll:=[37,75]
def Nh:=[0,1,5]
def Ni:=[1,5003]
def YV:=[(30000,30000),(9100002,9100002)]
def UF:=[4,5,9,29,57,5902,30000]
def MT:=[5,30000,37006,9100005]
def kT:=[0,2,3,8,9,16,17,18,54,55,56,62,63,64]
def kU:=[0,2,3,5,16,17,18,24,25,26,31,32,33]
def S6:=[1,6,5003]
def MU:=[0,4,5,9,68,69,70]
def L4:=[3,14]
def UG:=[0,3,4,5,6,12,13,14]
def MV:=[3,4,5,6,29,30000]
def EZ:=[2,5,6,7,8,9]
def Zf:=[1,2,7,5005]
def UH:=[1,2,4,5,6,7,8,10]
def La:=[1,3]
def YW:=[3,9,30000,37006,9100005]
def Vj:=[2,3,6,7]
def CR:=[3,10,11,12]
def CS:=[2,5,6,7,8]
def ei:=[0,2,3,16,17,18,24,25,26]
def ek:=[0,2,3,16,17,18,54,55,56]
def Ui:=[2,33,59]
def S7:=[3,6,11]
def rR:=[(30000,30000),(37006,37006),(13000005,9200005)]
def Xd:=[0,1,5,6]
def rS:=[(30000,30000),(37006,37006),(9300005,9200005)]
def Vk:=[10,70010]
def UI:=[1,2,7,5005,5008]
def S8:=[0,3,4]
def MW:=[1,5,11,12,13]
def MX:=[1,5,7,11,12]
def kV:=[4,5,9,11,29,57,5902,30000]
def UJ:=[2,35,37,46,51]
def kW:=[3,4,6,14,15,16,21,22,23]
def kX:=[3,4,6,14,15,16,33,34,35]
def MY:=[1,7,8,9,10]
def YX:=[3,31,30000,37006]
def YY:=[1,5,7,11,12,13]
def IM:=[30000,35000]
def YZ:=[3,4,5,14,15,16]
def en:=[1,2,5,6,7,8,9,10]
def MZ:=[1,6,7,8,9]
def kY:=[3,4,11,12,13,18,19,20]
def kZ:=[0,5,12,13,14,18,19,20]
def P5:=[1,4]
def Xe:=[2,5,6]
def Xf:=[1,4,7]
def ka:=[6,7,30000,37006,9100005]
def kd:=[1,5,7,11,12,13,14,15]
def UK:=[1,7,8,9,16]
def FA:=[0,21,22]
def ep:=[3,4,30000,9100002]
def Rm:=[0,3]
def ZA:=[31,30000,37006]
def IP:=[1,3,5,6]
def IQ:=[0,1,7,8]
def IR:=[1,3,4,6]
def ZB:=[1,2,5,6,7,8]
def kg:=[0,3,4,5,8,36,37,38]
def kh:=[0,3,4,5,6,33,34,35]
def er:=[0,2,3,16,17,18]
def e7:=[3,4,6,14,15,16]
def NA:=[33,59,103]
def rT:=[0,3,4,5,8,9,10,36,37,38]
def rU:=[0,4,6,21,22,30,31,32,33]
def rV:=[0,4,6,21,22,30,31,32,40]
def vR:=[(30000,30000),(9100002,9100002),(10,20000)]
def ZC:=[0,5,8,9,10]
def rW:=[0,4,6,8,21,22,30,31,32]
def ZD:=[1,5,72,5003]
def kj:=[0,3,4,5,17,18,19]
def TC:=[2,3,7,8,9,10]
def TD:=[1,2,6,8,9,10]
def iQ:=[(30000,30000),(29,9100002)]
def rB:=[(30000,30000),(37006,37006),(8,9200005)]
def bh:=[1,3,4,5,9,10,11]
def GA:=[1,3,7,17]
def V6:=[1,2,5]
def Yr:=[0,1,10]
def KV:=[0,16,17,18]
def TE:=[0,2,4,7,8,9]
def KW:=[1,2,4,5,6]
def KY:=[1,5,7,5003]
def TF:=[3,4,14,15,16]
def bi:=[2,5,6,7,8,9,10]
def iR:=[6,8,30000,37006,9100005]
def TG:=[3,30000,37006]
def TH:=[0,3,9,10,11]
def bj:=[2,4,5,18,19,20]
def bm:=[1,3,4,5,6,7,8]
def GB:=[4,5,5502]
def TI:=[(34000,34000)]
def CK:=[10,5003]
def TJ:=[3,11,12,13]
def TK:=[0,12,13,14]
def TL:=[0,1,6,7,8]
def TM:=[6,18,19,25]
def TN:=[0,2,4,7,8]
def TO:=[2,3,7,8,9]
def TP:=[1,3,5,6,7]
def TQ:=[1,3,5,6,8]
def TR:=[1,3,4,5,9]
def iS:=[1,5,7,11,12,13,14]
def TS:=[4,15,16,17]
def TT:=[0,3,4,5,6]
def KZ:=[2,5,6,7]
def LA:=[18,19,20]
def iT:=[1,2,4,5,6,7,8,9]
def CL:=[1,2,6]
def CM:=[2,3,5]
def iU:=[3,4,5,7,14,15,16]
def V7:=[2,16]
def rC:=[2,5,6,7,9,10,26,27,28,44]
def GC:=[1,4,22]
def GD:=[1,3,17]
def TU:=[5,7,12,13]
def iV:=[30000,37006,9300005]
def rD:=[3,4,10,15,34,30000,9100002]
def LB:=[2,35,37]
def rE:=[0,3,4,5,6,7,8,12,13,14]
def bn:=[0,1,3,9,10]
def iW:=[0,1,5,14,15,16]
def iX:=[1,2,4,5,6,7,8]
def GE:=[1,2,3]
def rF:=[2,5,6,7,9,10,26,27,28]
def V8:=[2,5]
def bo:=[(6004,20000)]
def TV:=[0,1,6,7]
def bp:=[0,15,16,17]
def bq:=[0,21,22,23]
def TW:=[0,2,4,5]
def TX:=[1,2,5005]
def TY:=[2,3,7,8]
def br:=[(5003,20000)]
def bs:=[6,25,26,27]
def rG:=[(36005,34000),(31,34002)]
def rH:=[(36006,34000),(42,34002)]
def iY:=[0,1,5,7,8,16]
def iZ:=[2,3,5,6,7,11]
def rI:=[2,5,6,7,26,27,28,29]
def CO:=[2,33]
def CP:=[3,11]
def TZ:=[5,18,19]
def UA:=[6,18,19]
def ia:=[1,2,15,16,17]
def rJ:=[2,5,6,7,9,26,27,28]
def ib:=[0,1,32,33,34]
def rK:=[10,30000,37006,9100005]
def LC:=[1,3,5]
def ic:=[1,3,5,6,7,8]
def ie:=[2,3,5,6,7,8]
def bt:=[2,5,6,25]
def rL:=[2,5,6,7,8,9,10,60]
def rM:=[4,30000,37006,9100005]
def bu:=[1,2,3,14]
def ig:=[0,3,4,14,15]
def ii:=[0,4,6,21,22]
def UB:=[1,2,11]
def bv:=[0,2,7,8]
def ij:=[(34001,34001)]
def LD:=[18,19]
def rN:=[2,7,77,60077,70077]
def LE:=[15,18]
def bw:=[0,3,4,5]
def rO:=[4,5,9,29,57,30000]
def bx:=[1,2,3,4]
def bz:=[1,5,6,7]
def rP:=[4,9,29,5902,30000]
def ik:=[1,23,24,25]
def UC:=[0,1,2]
def il:=[1,2,5,6,7]
def UD:=[0,2,7]
def io:=[3,38,39,40]
def ip:=[0,37,38,39]
def iq:=[0,1,7,8,9]
def ir:=[0,1,5,7,8]
def iu:=[0,2,4,5,6]
def iv:=[2,35,37,46]
def UE:=[2,5,7]
def iw:=[0,3,4,5,8]
def iy:=[2,3,5,6,7]
def iz:=[0,1,12,13]
def jA:=[0,6,21,22]
def rQ:=[(9200002,10001102)]
def b6:=[7,34000]
set_option maxRecDepth 100000
set_option maxHeartbeats 2000000
def Aq(x:Int):List AV:=[.int .i64 x]
def Li(x:Ax):List AV:=[AV.list 1 Aq 0 x .none]
structure TPhi where
 Bits:Int
 Dst:Int
 From:Ax
 Args:Ax
 deriving Inhabited,DecidableEq
def Ej(x:TPhi):List AV:=[.int .i64 x.Bits,.int .i64 x.Dst,AV.list 1 Aq 0 x.From .none,AV.list 1 Aq 0 x.Args .none]
def wr(x:List TPhi):List AV:=[AV.list 4 Ej default x .none]
def Aar(x:Int):List AV:=[.int .u64 x]
structure TOp where
 Kind:Int
 Bits:Int
 Lanes:Int
 Dst:Int
 Args:Ax
 Imm:Int
 deriving Inhabited,DecidableEq
def Lm(x:TOp):List AV:=[.int .i64 x.Kind,.int .i64 x.Bits,.int .i64 x.Lanes,.int .i64 x.Dst,AV.list 1 Aq 0 x.Args .none,.int .u64 x.Imm]
def WT(x:List TOp):List AV:=[AV.list 6 Lm default x .none]
structure Ou where
 Kind:Int
 Arg:Int
 To:Ax
 deriving Inhabited,DecidableEq
def jZ(x:Ou):List AV:=[.int .i64 x.Kind,.int .i64 x.Arg,AV.list 1 Aq 0 x.To .none]
structure Ae where
 Phis:List TPhi
 Ops:List TOp
 End:Ou
 deriving Inhabited,DecidableEq
def Cg(x:Ae):List AV:=[AV.list 4 Ej default x.Phis .none,AV.list 6 Lm default x.Ops .none,.int .i64 x.End.Kind,.int .i64 x.End.Arg,AV.list 1 Aq 0 x.End.To .none]
def pE(x:List Ae):List AV:=[AV.list 5 Cg default x .none]
structure TFunc where
 Params:Ax
 Ret:Int
 Blocks:List Ae
 deriving Inhabited,DecidableEq
def eTFunc(x:TFunc):List AV:=[AV.list 1 Aq 0 x.Params .none,.int .i64 x.Ret,AV.list 5 Cg default x.Blocks .none]
structure nw where
 At:Int
 Then:Int
 Else:Int
 Join:Int
 deriving Inhabited,DecidableEq
abbrev J8:=(Int×Int)
def Bp(x:J8):List AV:=[.int .i64 x.1,.int .i64 x.2]
structure Qd where
 block:Int
 at_:Int
 deriving Inhabited,DecidableEq
def OE(x:Qd):List AV:=[.int .i64 x.block,.int .i64 x.at_]
structure Bj where
 v:Int
 shape:J8
 place:Qd
 deriving Inhabited,DecidableEq
def Om(x:Bj):List AV:=[.int .i64 x.v,.int .i64 x.shape.1,.int .i64 x.shape.2,.int .i64 x.place.block,.int .i64 x.place.at_]
structure TGraph where
 Succ:Oe
 Pred:Oe
 deriving Inhabited,DecidableEq
def Xo(x:TGraph):List AV:=[AV.list 1 Li [] x.Succ .none,AV.list 1 Li [] x.Pred .none]
def eB(x:Bool):List AV:=[.bool x]
structure Ay where
 shape:J8
 place:Qd
 deriving Inhabited,DecidableEq
def ja(x:Ay):List AV:=[.int .i64 x.shape.1,.int .i64 x.shape.2,.int .i64 x.place.block,.int .i64 x.place.at_]
structure Aac where
 f:TFunc
 h:nw
 ops:List TOp
 last:Int
 deriving Inhabited,DecidableEq
structure Cc where
 V:Int
 Block:Int
 At:Int
 Shape:J8
 deriving Inhabited,DecidableEq
def Pu(x:Cc):List AV:=[.int .i64 x.V,.int .i64 x.Block,.int .i64 x.At,.int .i64 x.Shape.1,.int .i64 x.Shape.2]
structure D1 where
 V:Int
 Block:Int
 At:Int
 Shape:J8
 deriving Inhabited,DecidableEq
def O2(x:D1):List AV:=[.int .i64 x.V,.int .i64 x.Block,.int .i64 x.At,.int .i64 x.Shape.1,.int .i64 x.Shape.2]
def aa(x:List Bool):List AV:=[AV.list 1 eB false x .none]
structure WC where
 x:Int
 y:Int
 became:List J8
 deriving Inhabited,DecidableEq
structure Aa0 where
 Args:Ax
 Mem:Ax
 Fuel:Int
 deriving Inhabited,DecidableEq
structure wM where
 Write:Bool
 At:Int
 Byte:Int
 deriving Inhabited,DecidableEq
structure Aa3 where
 bytes:Ax
 trace:List wM
 deriving Inhabited,DecidableEq
structure Aa4 where
 Code:Int
 Value:Int
 Steps:Int
 deriving Inhabited,DecidableEq
theorem mix:Tryz.prog.follows .mixedOrders=true:=by kernel_rfl
abbrev sP:=Spec Tryz.prog
abbrev NR:=(Nat×Own)
theorem sG {f : FuncId} {fn : Func} {args : List AV} {H H' : List NR} {res : AV} (hf : Tryz.prog.funcs[f]? = some fn) (k : ∀ Γ : H6, RgQ Tryz.prog Γ fn.ntmps H → GG Tryz.prog Γ (fK Tryz.prog Γ fn.results.toList H res H') (vD (ZS fn) []) (JJ args H)) (hb : fn.body.isSome = true := by kernel_rfl) (hname : (fn.name == "runtime.NumGoroutine") = false := by kernel_rfl) (hlen : Nat.ble args.length fn.ntmps = true := by kernel_rfl) (hpl : RR H = true := by kernel_rfl) : sP f args H res H' := KF mix hf k hb hname hlen hpl
def Z1:=λza zb zc zd zf zg zm=>((30000,.row 102 [(AV.list 1 Aq 0 za .none),(.int .i64 zb),(AV.list 5 Cg default zc .none),(.int .i64 zd),(AV.list 1 Aq 0 zf .none),(.omap zg),(AV.list 5 Om default zm (.own 37006))]):Nat×Own)
def Z2:=λza=>(⟨[],[],(.bool za),[],[],[]⟩:Vl)
def Z3:=λza zb zc zd zf zg zm=>([(30000,.row 102 [(AV.list 1 Aq 0 za .none),(.int .i64 zb),(AV.list 5 Cg default zc .none),(.int .i64 zd),(AV.list 1 Aq 0 zf .none),.nilm,(AV.list 5 Om default zg (.own 37006))]),(37006,.tok 5 211 zm)]:List NR)
def Z4:=λza (zb:Ax)=>((za,.arr 1 3 zb.length (λi=>Aq (zb.getD i 0))):Nat×Own)
def Z5:=λza=>((.int .i64 za):AV)
def Z6:=λza=>((AV.list 1 Aq 0 za .none):AV)
def Z7:=λza=>((AV.list 2 Bp ((0:Int),(0:Int)) za .none):AV)
def Z8:=λza zb zc=>((30000,.row 137 [(Z5 za),(Z5 zb),(.omap zc)]):Nat×Own)
def Z9:=λza (zb:List Bool)=>((za,.arr 1 4 zb.length (λi=>eB (zb.getD i false))):Nat×Own)
def yi:=λza zb zc zd zf zg zm zn=>([(Z1 za zb zc zd zf 9100005 zg),(37006,.tok 5 211 zm),(9100005,.obj (.map false .i64 zn))]:List NR)
def cP:=λza zb zc zd=>((za,.arr 1 22 zb (Ox 1 Aq (0:Int) zc (Tag.fam zd))):Nat×Own)
def L9:=((.int .i64 (0:Int)):AV)
def ZM:=λza zb zc zd zf zg zm=>([(Z1 za zb zc zd zf 9100005 zg),(37006,.tok 5 211 zm)]:List NR)
def Z0:=((.slice 0 0 (λ_=>[]) .exact):AV)
def fU:=((AV.list 1 Aq 0 ([]:Ax) .exact):AV)
def yj:=λza zb zc zd zf zg=>((30000,.row 102 [(Z6 za),(Z5 zb),(AV.list 5 Cg default zc .none),(Z5 zd),(Z6 zf),(.omap 8),(AV.list 5 Om default zg (.own 37006))]):Nat×Own)
def Wa:=λza zb=>((AV.list 1 Aq 0 za (.own zb)):AV)
def fV:=λza (zb:List TOp)=>((za,.arr 6 70 zb.length (λi=>Lm (zb.getD i default))):Nat×Own)
def OY:=λza=>((AV.list 5 Cg default za .none):AV)
def NT:=λza zb=>((AV.list 1 eB false za (.own zb)):AV)
def nz:=λza (zb:List TPhi)=>([(za,.arr 4 67 zb.length (λi=>Ej (zb.getD i default)))]:List NR)
def mv:=λza=>((3,(AV.list 5 O2 default za (.own 5003))):Nat×AV)
def Z23:=λza (zb:Ax) (zc:Ax)=>((.slice 1 (bif za then zb.length else zc.length) (λi=>bif za then Aq (zb.getD i 0) else Aq (zc.getD i 0)) .none):AV)
def Xj:=λza=>((.agg (ja za)):AV)
def IX:=λza=>(⟨[],[],(Z5 za),[],[],[]⟩:Vl)
def yk:=λza zb zc zd=>(⟨[(30000,30000),(9100002,9100002)],[],(Z5 za),[(Z8 zb zc 9100002),(9100002,.obj (.map true .i64 zd))],[],[30000,9100002]⟩:Vl)
def NU:=λza=>((AV.list 1 Li [] za .none):AV)
def wO:=λza zb zc zd zf=>((37,.arr 1 81 za (λi_=>AV.eraseAll zb ((Fa zc zd 0 [(.vsl 46 zf)]) i_))):Nat×Own)
def yl:=λza zb zc zd zf zg zm zn=>(⟨[(30000,30000),(37006,37006),(9100005,9100005)],[],(.tuple []),(yi za zb zc zd zf zg zm zn),[],[]⟩:Vl)
def Vn:=λza=>((.agg (eTFunc za)):AV)
def UY:=λza zb=>((za,.obj (.map true .i64 zb)):Nat×Own)
def uy:=λza=>((AV.list 1 Aq 0 ([za]:Ax) .exact):AV)
def Z33:=(⟨[(4,(AV.list 1 Aq 0 ([]:Ax) (.own 6004)))],[(6004,.tok 1 3 (([]:Ax).length))],[]⟩:St)
abbrev MQ:=(Nat×AV)
def Z34:=λza zb zc zd=>([(za,(AV.list 5 O2 default zb .exact)),(zc,(AV.list 5 O2 default (zd++zb) (.own 5003)))]:List MQ)
def sf:=λza=>((3,(AV.list 5 Pu default za (.own 5003))):Nat×AV)
def Uj:=((2,(.ptr 2 0)):Nat×AV)
def Z37:=λza (zb:List Bj) (zc:List Bj)=>((.slice 5 (bif za then zb.length else zc.length) (λi=>bif za then Om (zb.getD i default) else Om (zc.getD i default)) (.own 37006)):AV)
def ym:=((AV.list 2 Bp ((0:Int),(0:Int)) ([]:List J8) .exact):AV)
def b8:=λza zb=>((za,(.int .i64 (zb:Int))):Nat×AV)
def AA:=((1,(.ptr 1 0)):Nat×AV)
def xZ:=λza zb zc=>(⟨[],[(20000,za)],(Wa zb 20000),[(20000,.tok 1 3 zc)],[],[]⟩:Vl)
def uz:=λza zb=>((.agg (ja (Fu (default:Ay) za zb))):AV)
def yn:=λza zb=>([(30000,.row 81 [(.vsl 35000 za)]),(Z9 35000 zb)]:List NR)
def Rd:=λza zb=>((za,.tok 1 4 zb):Nat×Own)
def wP:=λza zb=>((AV.list 2 Bp ((0:Int),(0:Int)) za (.own zb)):AV)
def xc:=((AV.list 1 Li [] ([]:Oe) .exact):AV)
def Z47:=λza zb zc zd=>([(za,(AV.list 5 Pu default zb .exact)),(zc,(AV.list 5 Pu default (zd++zb) (.own 5003)))]:List MQ)
def lL:=λza=>(⟨[],[],(Vn za),[],[],[]⟩:Vl)
def rf:=λza zb=>([(.agg (Xo za)),(Z5 zb)]:List AV)
def lM:=λza=>(⟨[],[],(Z7 za),[],[],[]⟩:Vl)
def Vo:=λza zb=>((7,(.vsl za zb)):Nat×AV)
def n6:=λza zb=>((7,.row 56 [za,(.vsl 77 zb)]):Nat×Own)
def Ln:=λza zb zc=>((za,.tok 5 zb zc):Nat×Own)
def xd:=λza zb zc=>(⟨[],[(20000,za)],(NT zb 20000),[(Rd 20000 zc)],[],[]⟩:Vl)
def rg:=λza zb=>((AV.list 1 Li [] za (.own zb)):AV)
def yo:=λza zb zc zd zf zg=>((1,.row 70 [(Z5 za),(Z5 zb),(Z5 zc),(Z5 zd),(Z6 zf),(.int .u64 zg)]):Nat×Own)
def yp:=((AV.list 6 Lm default ([]:List TOp) .exact):AV)
def wQ:=λza zb=>([(3,.row 81 [(.vsl 11 za)]),(Z9 11 zb)]:List NR)
def Yu:=λza zb=>((za,.tok 1 3 zb):Nat×Own)
def Z60:=λza zb zc zd zf=>([(za,(AV.list 5 Cg default zb .exact)),(zc,(AV.list 5 Cg default (zd++zb) (.own zf)))]:List MQ)
def Z61:=λza (zb:List Ae) (zc:List Ae)=>((.slice 5 (bif za then zb.length else zc.length) (λi=>bif za then Cg (zb.getD i default) else Cg (zc.getD i default)) .none):AV)
def Z62:=λza zb zc zd zf zg zm zn zp=>(⟨[(30000,30000),(37006,37006),(9100005,9100005)],[],(.agg (OE za)),(yi zb zc zd zf zg zm zn zp),[],[]⟩:Vl)
def Z63:=λza (zb:Ax) (zc:Ax)=>((.slice 1 (bif (za==true) then zb.length else zc.length) (λi=>bif (za==true) then Aq (zb.getD i 0) else Aq (zc.getD i 0)) .none):AV)
def Pt:=λza zb=>((2,.row za zb):Nat×Own)
def ZN:=((4,(.ptr 4 0)):Nat×AV)
def Z66:=λza zb zc zd zf zg zm zn=>(⟨[(30000,30000),(37006,37006)],[],(.bool za),(Z3 zb zc zd zf zg zm zn),[],[]⟩:Vl)
def Z67:=(⟨[(2,(AV.list 2 Bp ((0:Int),(0:Int)) ([]:List J8) (.own 6002)))],[(6002,.tok 2 90 (([]:List J8).length))],[]⟩:St)
def wR:=λza zb=>((AV.list 5 Cg default za (.own zb)):AV)
def yq:=λ(za:Ax)=>((6,.arr 1 231 64 (λi=>Aq (za.getD i 0))):Nat×Own)
def mw:=λza=>((2,.row 56 [za,za]):Nat×Own)
def Z71:=λza=>((za,.arr 1 3 (([]:Ax).length) (λi=>Aq (([]:Ax).getD i 0))):Nat×Own)
def Z72:=λza zb zc=>([(za,.arr 1 3 zb (λi=>Aq ((List.replicate (zc:Int).toNat (0:Int)).getD i 0)))]:List NR)
def Z73:=λ(za:List J8)=>([(30,.arr 2 90 za.length (λi=>Bp (za.getD i ((0:Int),(0:Int)))))]:List NR)
def xe:=λza zb=>(⟨[],[],(.tuple (rf za zb)),[],[],[]⟩:Vl)
def wS:=λza zb=>((AV.list 6 Lm default za (.own zb)):AV)
def n7:=((6,(.vpt 6 64 0 0)):Nat×AV)
def u0:=λza zb zc=>((.int .i64 (bif za then zb else zc)):AV)
def Z78:=λza zb zc=>((.agg [za,(.int .i64 (8:Int)),zb,(.int .i64 (2:Int)),zc,(.int .u64 (8:Int))]):AV)
def Z79:=λza zb zc zd zf zg zm zn zp=>(⟨[(30000,30000),(37006,37006),(9100005,9100005)],[],(.bool za),(yi zb zc zd zf zg zm zn zp),[],[]⟩:Vl)
def Z80:=((AV.list 1 Li [] ([]:Oe) .none):AV)
def WD:=λza=>((.agg (Lm za)):AV)
def n8:=((5,(.vpt 5 64 0 0)):Nat×AV)
def fA:=((5,(.ptr 5 0)):Nat×AV)
def Z84:=((AV.list 1 Aq 0 ([(1:Int)]:Ax) .exact):AV)
def Z85:=λza zb zc zd zf zg=>(⟨[(30000,30000),(9100002,9100002)],[(20000,za)],(Wa zb 20000),[(Z8 zc zd 9100002),(UY 9100002 zf),(Yu 20000 zg)],[],[30000,9100002]⟩:Vl)
def xf:=λza=>((AV.list 4 Ej default za .none):AV)
def yr:=λza=>(⟨[],[],(.agg (Bp za)),[],[],[]⟩:Vl)
def my:=λza=>((0,(.vsl 34000 za)):Nat×AV)
def wT:=λza zb=>([(.int .u64 za),(.int .u64 zb)]:List AV)
def u1:=((.int .i64 (1:Int)):AV)
def mz:=λza=>((6,.arr 1 231 64 za):Nat×Own)
def xg:=λza=>((AV.list 6 Lm default za .none):AV)
def Z93:=λza zb=>(⟨[],[],(.tuple [(Z5 za),(Z5 zb)]),[],[],[]⟩:Vl)
def Z94:=λza zb=>(⟨[(3,30000),(11,35000)],[],(.tuple []),(yn za zb),[],[]⟩:Vl)
def Z95:=λza=>((AV.list 1 Aq 0 ([]:Ax) (.own za)):AV)
def Z96:=λza zb zc=>((.agg [za,(.int .i64 (8:Int)),zb,zb,zc,(.int .u64 (7:Int))]):AV)
def yu:=λza zb zc zd=>((37,.arr 1 81 za (Fa zb zc 0 [(.vsl 46 zd)])):Nat×Own)
def yv:=λza zb zc=>([(za,.row 137 [(Z5 zb),(Z5 zc),.nilm])]:List NR)
def Z99:=λza zb=>(⟨[(30000,30000),(37006,37006)],[],(Z5 za),zb,[],[]⟩:Vl)
def wN:=λza zb zc zd zf=>([(za,(uy zb)),(zc,(AV.list 1 Aq 0 (zd++([zb]:Ax)) (.own zf)))]:List MQ)
def OW:=λza=>((5,.arr 1 230 64 za):Nat×Own)
def OX:=([(.ptr 30000 0)]:List AV)
def cN:=λza zb zc=>([(Z5 za),(Z5 zb),(.omap zc)]:List AV)
def cO:=((0,(.ptr 30000 0)):Nat×AV)
def Vm:=λza zb=>((5,(.vsl za zb)):Nat×AV)

abbrev nD:=(LR (Int×Int) Int)
def Qp(a0:TFunc):J8->Option nD:=
 λ(i1,i2)=>bif decide (i2<a0.Blocks.length) then Az (A1 i2 a0.Blocks.length) (some (.next (w64 (i1+w64 ((a0.Blocks.getD i2.toNat default).Phis.length+(a0.Blocks.getD i2.toNat default).Ops.length)),w64 (i2+1)))) else some (.done i1)
def Hb(a0:TFunc):Option Int:=
 (Ac   (Qp a0) (a0.Blocks.length,0)).bind λx5=>some x5
variable{v0:TFunc}{v1:Int}
theorem Q2(h:Hb v0=some v1):sP 49 [(Vn v0)] [] (.int .i64 v1) []:=
 sG Tryz.func49 λΓ q=>tW q [1] [1] La [1] (Af q CR [] (tL q h CR [] (λu (i1,i2)=>(Cm u [(3,(Z5 i1)),(12,(Z5 i2))] [])) (λu i3=>aG Γ (.exit 0) (⟨[(3,(Z5 i3))],[],[]⟩:St)) (λ⟨i1,i2⟩ y h=>Af q [3,10,11,12,13] [] (gC h (λh=>tV q [3,5,10,11,12] [5] h λh=>tW q CR [] CR [] (tN h)) λh=>tS h (gO (Be (Bg [3] [] q))))) λx5 h=>gA (Af q [2] [] (tS h (Ca [])))))
def Km(aA:Ax):Int->Option (LR Int (Unit ⊕ Bool)):=
 λi1=>bif decide (i1<aA.length) then Az (A1 i1 aA.length) (bif bif decide (aA.getD i1.toNat 0<0) then true else decide (2147483647<aA.getD i1.toNat 0) then some (.done (.inr false)) else some (.next (w64 (i1+1)))) else some (.done (.inl ()))
def GI(Γ:H6)(aA:Ax)(r:Bool):Exit->St->Prop:=fK Tryz.prog Γ Tryz.f181.results.toList [] (.bool r) []
def D8(aA:Ax):Option Bool:=
 (Ac   (Km aA) 0).bind λx3=>match x3 with | .inl _=>some true | .inr r5=>some r5
variable{v2:Ax}{v3:Bool}
theorem Hv(h:D8 v2=some v3):sP 181 [(Z6 v2)] [] (.bool v3) []:=
 sG Tryz.func181 λΓ q=>tW q [0] [] [5,6,7] [] (tL q h [5,6,7] [] (λu i1=>(Cm u [(7,(Z5 i1))] [])) (λu x_=>match x_ with|(.inl _)=>aG Γ (.exit 0) (⟨[],[],[]⟩:St)|(.inr r_)=>aR (GI Γ v2 r_)) (λi1 y h=>Af q [5,6,7,8] [] (gC h (λh=>tV q [4,5,6,7] [] h λh=>tU q [5,6,7,16] [] (c2 (gI ((decide ((v2.getD i1.toNat 0)<0))==false)) (L5 (decide ((v2.getD i1.toNat 0)<0)))) (gC h (λh=>Af q [2] [] (tS h (gO (Lo (H7 [] (Le.refl _ _)))))) λh=>Af q [5,6,7] [] (tN h))) λh=>tS h (gO (Be (Bg [] [] q))))) λx3 h=>(match x3,h with | .inl _,h=>gA (Af q [2] [] (tS h (Ca []))) | .inr r5,h=>O3 (λst' hk=>tS h (gK hk))))
def Iw(aA:Ax):Option Bool:=
 (bif decide (aA.length<=(64:Int))==true then D8 aA else some false).bind λx1=>some (bif decide (aA.length<=(64:Int)) then x1 else false)
theorem Oj(h:Iw v2=some v3):sP 263 [(Z6 v2)] [] (.bool v3) []:=
 sG Tryz.func263 λΓ q=>Af q [0] [] (tB h λx1 y1 h=>tT q [2] [] [(Z2 x1)] (c3 (gI ((decide ((v2.length:Int)<=64))==true)) (λ(hg:((decide ((v2.length:Int)<=64))==true)=true)=>(Hv (A9 hg y1))) (Ml (decide ((v2.length:Int)<=64)))) (tS h (Ca [])))
def Qr(aV:TPhi):Option Bool:=
 (D8 [aV.Bits,aV.Dst]).bind λx1=>(bif x1==true then Iw aV.From else some false).bind λx2=>(bif (bif x1 then x2 else false)==true then Iw aV.Args else some false).bind λx3=>some (bif bif x1 then x2 else false then x3 else false)
variable{v4:TPhi}
theorem NL(h:Qr v4=some v3):sP 227 [(.agg (Ej v4))] [] (.bool v3) []:=
 sG Tryz.func227 λΓ q=>Af q [1] [1] (tB h λx1 y1 h=>tB h λx2 y2 h=>tB h λx3 y3 h=>gR q [2] [] [(7,(AV.list 1 Aq 0 ([v4.Bits,v4.Dst]:Ax) .exact))] [(Z2 x1),(Z2 x2),(Z2 x3)] (fq (Bq 1 Aq (0:Int) ([v4.Bits,v4.Dst]:Ax)) (Hv y1) (Md (x1==true) (fq (λ(hg:(x1==true)=true)=>(Oj (A9 hg y2))) (Ml x1) (Md ((bif x1 then x2 else false)==true) (c2 (λ(hg:((bif x1 then x2 else false)==true)=true)=>(Oj (A9 hg y3))) (Ml (bif x1 then x2 else false))))))) (tS h (Ca [])))
def Hy(aA:List TPhi):Int->Option (LR Int (Unit ⊕ Bool)):=
 λi1=>bif decide (i1<aA.length) then Az (A1 i1 aA.length) ((Qr (aA.getD i1.toNat default)).bind λx3=>bif !x3 then some (.done (.inr false)) else some (.next (w64 (i1+1)))) else some (.done (.inl ()))
def Zh(Γ:H6)(aA:List TPhi)(r:Bool):Exit->St->Prop:=fK Tryz.prog Γ Tryz.f226.results.toList [] (.bool r) []
def J1(aA:List TPhi):Option Bool:=
 (Ac   (Hy aA) 0).bind λx4=>match x4 with | .inl _=>some true | .inr r6=>some r6
variable{v5:List TPhi}
theorem X6(h:J1 v5=some v3):sP 226 [(xf v5),(.clo 227 [] [])] [] (.bool v3) []:=
 sG Tryz.func226 λΓ q=>tW q Gm [] Ng [] (tL q h Ng [] (λu i1=>(Cm u [(9,(Z5 i1))] [])) (λu x_=>match x_ with|(.inl _)=>aG Γ (.exit 0) (⟨[],[],[]⟩:St)|(.inr r_)=>aR (Zh Γ v5 r_)) (λi1 y h=>Af q MY [] (gC h (λh=>tV q MZ [6] h λh=>tB h λx3 y3 h=>tT q UK [] [(Z2 x3)] (c1 (NL y3)) (gC h (λh=>Af q [4] [] (tS h (gO (Lo (H7 [] (Le.refl _ _)))))) λh=>Af q Ng [] (tN h))) λh=>tS h (gO (Be (Bg [] [] q))))) λx4 h=>(match x4,h with | .inl _,h=>gA (Af q [4] [] (tS h (Ca []))) | .inr r6,h=>O3 (λst' hk=>tS h (gK hk))))
def R6(a1:TOp):Option Bool:=
 (D8 [a1.Kind,a1.Bits,a1.Lanes,a1.Dst]).bind λx1=>(bif x1==true then Iw a1.Args else some false).bind λx2=>some (bif x1 then x2 else false)
variable{v6:TOp}
theorem RF(h:R6 v6=some v3):sP 229 [(WD v6)] [] (.bool v3) []:=
 sG Tryz.func229 λΓ q=>Af q [1] [1] (tB h λx1 y1 h=>tB h λx2 y2 h=>gR q [2] [] [(11,(AV.list 1 Aq 0 ([v6.Kind,v6.Bits,v6.Lanes,v6.Dst]:Ax) .exact))] [(Z2 x1),(Z2 x2)] (fq (Bq 1 Aq (0:Int) ([v6.Kind,v6.Bits,v6.Lanes,v6.Dst]:Ax)) (Hv y1) (Md (x1==true) (c2 (λ(hg:(x1==true)=true)=>(Oj (A9 hg y2))) (Ml x1)))) (tS h (Ca [])))
def Ii(aA:List TOp):Int->Option (LR Int (Unit ⊕ Bool)):=
 λi1=>bif decide (i1<aA.length) then Az (A1 i1 aA.length) ((R6 (aA.getD i1.toNat default)).bind λx3=>bif !x3 then some (.done (.inr false)) else some (.next (w64 (i1+1)))) else some (.done (.inl ()))
def AD(Γ:H6)(aA:List TOp)(r:Bool):Exit->St->Prop:=fK Tryz.prog Γ Tryz.f228.results.toList [] (.bool r) []
def Kl(aA:List TOp):Option Bool:=
 (Ac   (Ii aA) 0).bind λx4=>match x4 with | .inl _=>some true | .inr r6=>some r6
variable{v7:List TOp}
theorem Zp(h:Kl v7=some v3):sP 228 [(xg v7),(.clo 229 [] [])] [] (.bool v3) []:=
 sG Tryz.func228 λΓ q=>tW q Gm [] Ng [] (tL q h Ng [] (λu i1=>(Cm u [(9,(Z5 i1))] [])) (λu x_=>match x_ with|(.inl _)=>aG Γ (.exit 0) (⟨[],[],[]⟩:St)|(.inr r_)=>aR (AD Γ v7 r_)) (λi1 y h=>Af q MY [] (gC h (λh=>tV q MZ [6] h λh=>tB h λx3 y3 h=>tT q UK [] [(Z2 x3)] (c1 (RF y3)) (gC h (λh=>Af q [4] [] (tS h (gO (Lo (H7 [] (Le.refl _ _)))))) λh=>Af q Ng [] (tN h))) λh=>tS h (gO (Be (Bg [] [] q))))) λx4 h=>(match x4,h with | .inl _,h=>gA (Af q [4] [] (tS h (Ca []))) | .inr r6,h=>O3 (λst' hk=>tS h (gK hk))))
def Qq(aK:Ou):Option Bool:=
 (D8 [aK.Kind,aK.Arg]).bind λx1=>(bif x1==true then Iw aK.To else some false).bind λx2=>some (bif x1 then x2 else false)
variable{v8:Ou}
theorem NK(h:Qq v8=some v3):sP 230 [(.agg (jZ v8))] [] (.bool v3) []:=
 sG Tryz.func230 λΓ q=>Af q [1] [1] (tB h λx1 y1 h=>tB h λx2 y2 h=>gR q [2] [] [(7,(AV.list 1 Aq 0 ([v8.Kind,v8.Arg]:Ax) .exact))] [(Z2 x1),(Z2 x2)] (fq (Bq 1 Aq (0:Int) ([v8.Kind,v8.Arg]:Ax)) (Hv y1) (Md (x1==true) (c2 (λ(hg:(x1==true)=true)=>(Oj (A9 hg y2))) (Ml x1)))) (tS h (Ca [])))
def Og(aM:Ae):Option Bool:=
 (J1 aM.Phis).bind λx1=>(bif x1==true then Kl aM.Ops else some false).bind λx2=>(bif (bif x1 then x2 else false)==true then Qq ⟨aM.End.Kind,aM.End.Arg,aM.End.To⟩ else some false).bind λx3=>some (bif bif x1 then x2 else false then x3 else false)
variable{v9:Ae}
theorem HV(h:Og v9=some v3):sP 183 [(.agg (Cg v9))] [] (.bool v3) []:=
 sG Tryz.func183 λΓ q=>Af q [1] [1] (tB h λx1 y1 h=>tB h λx2 y2 h=>tB h λx3 y3 h=>tT q [2] [] [(Z2 x1),(Z2 x2),(Z2 x3)] (ci (X6 y1) (Md (x1==true) (fq (λ(hg:(x1==true)=true)=>(Zp (A9 hg y2))) (Ml x1) (Md ((bif x1 then x2 else false)==true) (c2 (λ(hg:((bif x1 then x2 else false)==true)=true)=>(NK (A9 hg y3))) (Ml (bif x1 then x2 else false))))))) (tS h (Ca [])))
def Gx(aA:List Ae):Int->Option (LR Int (Unit ⊕ Bool)):=
 λi1=>bif decide (i1<aA.length) then Az (A1 i1 aA.length) ((Og (aA.getD i1.toNat default)).bind λx3=>bif !x3 then some (.done (.inr false)) else some (.next (w64 (i1+1)))) else some (.done (.inl ()))
def Wd(Γ:H6)(aA:List Ae)(r:Bool):Exit->St->Prop:=fK Tryz.prog Γ Tryz.f182.results.toList [] (.bool r) []
def Ih(aA:List Ae):Option Bool:=
 (Ac   (Gx aA) 0).bind λx4=>match x4 with | .inl _=>some true | .inr r6=>some r6
variable{v10:List Ae}
theorem V1(h:Ih v10=some v3):sP 182 [(OY v10),(.clo 183 [] [])] [] (.bool v3) []:=
 sG Tryz.func182 λΓ q=>tW q Gm [] Ng [] (tL q h Ng [] (λu i1=>(Cm u [(9,(Z5 i1))] [])) (λu x_=>match x_ with|(.inl _)=>aG Γ (.exit 0) (⟨[],[],[]⟩:St)|(.inr r_)=>aR (Wd Γ v10 r_)) (λi1 y h=>Af q MY [] (gC h (λh=>tV q MZ [6] h λh=>tB h λx3 y3 h=>tT q UK [] [(Z2 x3)] (c1 (HV y3)) (gC h (λh=>Af q [4] [] (tS h (gO (Lo (H7 [] (Le.refl _ _)))))) λh=>Af q Ng [] (tN h))) λh=>tS h (gO (Be (Bg [] [] q))))) λx4 h=>(match x4,h with | .inl _,h=>gA (Af q [4] [] (tS h (Ca []))) | .inr r6,h=>O3 (λst' hk=>tS h (gK hk))))
def Q14(a0:TFunc):=(decide ((a0.Blocks.length:Int)<1))
def Q13(a0:TFunc):=(decide ((16:Int)<(a0.Params.length:Int)))
def Xz(a0:TFunc):Option Bool:=
 bif bif decide ((a0.Blocks.length:Int)<1) then true else decide (64<(a0.Blocks.length:Int)) then some false else(bif decide ((16:Int)<a0.Params.length)==false then Hb a0 else some 0).bind λx1=>bif bif decide ((16:Int)<a0.Params.length) then true else decide (512<x1) then some false else(D8 a0.Params).bind λx2=>(bif x2==true then D8 [a0.Ret] else some false).bind λx3=>(bif (bif x2 then x3 else false)==true then Ih a0.Blocks else some false).bind λx4=>some (bif bif x2 then x3 else false then x4 else false)
theorem dj(h:Xz v0=some v3):sP 130 [(Vn v0)] [] (.bool v3) []:=
 sG Tryz.func130 λΓ q=>Af q [1] [1] (tU q [1,12] [1] (Yy ((Q14 v0)==false) (c1 (L5 (Q14 v0)))) (gC h (λh=>Af q [2] [] (tS h (Ca []))) λh=>tB h λx1 y1 h=>tT q [1,21] [1] [(IX x1)] (c4 (gI ((Q13 v0)==false)) (λ(hg:((Q13 v0)==false)=true)=>(Q2 (A9 hg y1))) (gI ((Q13 v0)==false)) (L5 (Q13 v0))) (gC h (λh=>Af q [2] [] (tS h (Ca []))) λh=>tB h λx2 y2 h=>tB h λx3 y3 h=>tB h λx4 y4 h=>gR q [2] [] [(28,(uy v0.Ret))] [(Z2 x2),(Z2 x3),(Z2 x4)] (ci (Hv y2) (Md (x2==true) (d4_ (show((x2==true)=true->(AVle (.slice 1 1 (λi=>([[(Z5 v0.Ret)]]:List (List AV)).getD i []) .exact) (uy v0.Ret))) from(λhg=>@(Bq 1 Aq (0:Int) ([v0.Ret]:Ax)))) (gI (x2==true)) (λ(hg:(x2==true)=true)=>(Hv (A9 hg y3))) (Ml x2) (Md ((bif x2 then x3 else false)==true) (c2 (λ(hg:((bif x2 then x3 else false)==true)=true)=>(V1 (A9 hg y4))) (Ml (bif x2 then x3 else false))))))) (tS h (Ca [])))))
def Nq(aaF:Bool)(aK:Int):Option Int:=
 bif aaF then some 0 else some aK
variable{v11:Int}
theorem Y1(h:Nq v3 v1=some v11):sP 150 [(.bool v3),(Z5 v1)] [] (.int .i64 v11) []:=
 sG Tryz.func150 λΓ q=>tW q Gm [] [1,5] [] (gC h (λh=>Af q [4] [] (tS h (Ca []))) λh=>Af q [4] [] (tS h (Ca [])))
abbrev nE:=(Int×TFunc×Int×Ax×List Bj)
def Kj(a3:TFunc)(a5:Int)(a7:Ax)(aB:List Bj):Option nE:=
 (Xz a3).bind λx1=>(Nq x1 4).bind λx2=>some (x2,a3,a5,a7,aB)
variable{v12:List Bj}{v13:nE}
theorem Zn(h:Kj v0 v1 v2 v12=some v13):sP 104 OX (Z3 v0.Params v0.Ret v0.Blocks v1 v2 v12 v12.length) (Z5 v13.1) (Z3 v13.2.1.Params v13.2.1.Ret v13.2.1.Blocks v13.2.2.1 v13.2.2.2.1 v13.2.2.2.2 v13.2.2.2.2.length):=
 sG Tryz.func104 λΓ q=>Af q [0] I6 (tB h λx1 y1 h=>tB h λx2 y2 h=>tT q [2] I6 [(Z2 x1),(IX x2)] (c2 (dj y1) (Y1 y2)) (tS h (Ca Zd)))
def Mn(aS:Int):Option Bool:=
 some (bif decide (1<=aS) then decide (aS<=64) else false)
theorem Wo(h:Mn v1=some v3):sP 135 [(Z5 v1)] [] (.bool v3) []:=
 sG Tryz.func135 λΓ q=>Af q [0] [] (tU q [2] [] (c2 (gI ((decide ((1:Int)<=v1))==true)) (Ml (decide ((1:Int)<=v1)))) (tS h (Ca [])))
def Kd(aL:Int)(aS:Int):Option Bool:=
 some (bif decide (0<=aL) then decide (aL<aS) else false)
theorem Rv(h:Kd v1 v11=some v3):sP 188 [(Z5 v1),(Z5 v11)] [] (.bool v3) []:=
 sG Tryz.func188 λΓ q=>Af q Gm [] (tU q [4] [] (Md ((decide ((0:Int)<=v1))==true) (c1 (Ml (decide ((0:Int)<=v1))))) (tS h (Ca [])))
def F0(aK:Ou)(aS:Int):Int->Option (LR Int (Unit ⊕ Bool)):=
 λi7=>bif decide (i7<aK.To.length) then Az (A1 i7 aK.To.length) ((bif (aK.To.getD i7.toNat 0==0)==false then Kd (aK.To.getD i7.toNat 0) aS else some false).bind λx9=>bif bif aK.To.getD i7.toNat 0==0 then true else !x9 then some (.done (.inr false)) else some (.next (w64 (i7+1)))) else some (.done (.inl ()))
def Ys(Γ:H6)(aK:Ou)(aS:Int)(r:Bool):Exit->St->Prop:=fK Tryz.prog Γ Tryz.f136.results.toList [] (.bool r) []
def Q15(aK:Ou)(i7:Int):=((aK.To.getD i7.toNat 0)==0)
def Pf(aK:Ou)(aS:Int):Option Bool:=
 Option.bind (α:=Int ⊕ Bool) (Option.bind  (bif aK.Kind==0 then some (aK.Kind==0) else some (aK.Kind==3)) λx3=>bif x3 then some (.inl 0) else bif aK.Kind==1 then some (.inl 1) else bif aK.Kind==2 then some (.inl 2) else some (.inr false)) λx5=>match x5 with | .inl i1=>bif aK.To.length !=i1 then some false else(Ac   (F0 aK aS) 0).bind λx10=>(match x10 with | .inl _=>some true | .inr r12=>some r12) | .inr r13=>some r13
theorem JZ(h:Pf v8 v1=some v3):sP 136 [(.agg (jZ v8)),(Z5 v1)] [] (.bool v3) []:=
 sG Tryz.func136 λΓ q=>tW q Ea [2] V6 [2] (tB h λx5 y5 h=>gJ y5 (λx_=>match x_ with|(.inl i1)=>aG Γ .normal (⟨[(1,(Z5 v1)),Uj,(5,(Z5 i1))],[(2,.row 62 [(Z5 v8.Kind),(Z5 v8.Arg),(Z6 v8.To)])],[]⟩:St)|(.inr r_)=>aR (Ys Γ v8 v1 r_)) (λy h=>Af q [1,2,5,9] [2] (tB h λx3 y3 h=>gJ y3 (λb2=>aG Γ .normal (⟨[(1,(Z5 v1)),Uj,(5,L9),(9,(Z5 v8.Kind)),(10,(.bool b2))],[(2,.row 62 [(Z5 v8.Kind),(Z5 v8.Arg),(Z6 v8.To)])],[]⟩:St)) (λy h=>Af q [1,2,5,9,10] [2] (gC h (λh=>tS h (gK (Be H8))) λh=>Af q [1,2,5,9,10] [2] (tS h (gK (Be H8))))) (gA (gC h (λh=>tS h (gK (Be (Bg V6 [2] q)))) λh=>Af q [1,2,9,13] [2] (gC h (λh=>Af q V6 [2] (tS h (gK (Be H8)))) λh=>Af q [1,2,15] [2] (gC h (λh=>Af q V6 [2] (tS h (gK (Be H8)))) λh=>Af q [4] [] (tS h (gK (Lo (H7 [] (Le.refl _ _))))))))))) (match x5,h with | .inl i1,h=>gA (Af q [1,2,21] [2] (gC h (λh=>Af q [4] [] (tS h (Ca []))) λh=>Af q ik [] (tL q h ik [] (λu i7=>(Cm u [(25,(Z5 i7))] [])) (λu x_=>match x_ with|(.inl _)=>aG Γ (.exit 1) (⟨[],[],[]⟩:St)|(.inr r_)=>aR (Ys Γ v8 v1 r_)) (λi7 y h=>Af q [1,23,24,25,26] [] (gC h (λh=>tV q [1,7,23,24,25] [] h λh=>tB h λx9 y9 h=>tT q [1,23,24,25,36] [] [(Z2 x9)] (Md ((Q15 v8 i7)==false) (c3 (λ(hg:((Q15 v8 i7)==false)=true)=>(Rv (A9 hg y9))) (gI ((Q15 v8 i7)==false)) (L5 (Q15 v8 i7)))) (gC h (λh=>Af q [4] [] (tS h (gO (Lo (H7 [] (Le.refl _ _)))))) λh=>Af q ik [] (tN h))) λh=>tS h (gO (Be (Bg [] [] q))))) λx10 h=>(match x10,h with | .inl _,h=>gA (Af q [4] [] (tS h (Ca []))) | .inr r12,h=>O3 (λst' hk=>tS h (gK hk)))))) | .inr r13,h=>O3 (λst' hk=>tS h (gK hk))))
abbrev yT5:=(Int×Oe)
abbrev yT6:=(LR (Int×Oe) Oe)
def M7(a6:Oe)(i2:Int):yT5->Option yT6:=
 λ(i6,l7)=>bif decide (i6<(a6.getD i2.toNat []).length) then Az (A1 i6 (a6.getD i2.toNat []).length) (Az (A1 ((a6.getD i2.toNat []).getD i6.toNat 0) l7.length) (Az (A1 ((a6.getD i2.toNat []).getD i6.toNat 0) l7.length) (Az ((l7.getD ((a6.getD i2.toNat []).getD i6.toNat 0).toNat []).length+[i2].length<=room) (Az (A1 ((a6.getD i2.toNat []).getD i6.toNat 0) l7.length) (some (.next (w64 (i6+1),l7.set ((a6.getD i2.toNat []).getD i6.toNat 0).toNat (l7.getD ((a6.getD i2.toNat []).getD i6.toNat 0).toNat []++[i2])))))))) else some (.done l7)
def Kn(a6:Oe):yT5->Option yT6:=
 λ(i2,l3)=>bif decide (i2<a6.length) then Az (A1 i2 a6.length) ((Ac   (M7 a6 i2) (0,l3)).bind λx14=>some (.next (w64 (i2+1),x14))) else some (.done l3)
def ru(i2:Int):=([i2]:Ax)
def mt(a6:Oe)(i2:Int)(i6:Int):=((a6.getD i2.toNat []).getD i6.toNat 0)
def nO(l7:Oe)(a6:Oe)(i2:Int)(i6:Int):=(l7.getD (mt a6 i2 i6).toNat [])
def vT(a6:Oe):=(List.replicate (a6.length:Int).toNat ([]:Ax))
def xr(l7:Oe)(a6:Oe)(i2:Int)(i6:Int):=(l7.set (mt a6 i2 i6).toNat ((nO l7 a6 i2 i6)++(ru i2)))
def Q19(a6:Oe):List MQ:=[(0,(NU a6)),(3,(.vsl 10 (a6.length:Int).toNat))]
def Q18(l7:Oe)(i2:Int)(a6:Oe)(i6:Int):List MQ:=[(3,(.vsl 10 l7.length)),(4,(Z5 i2)),(11,(NU a6)),(b8 12 a6.length),(13,(Z5 i2)),(18,(AV.list 1 Aq 0 (a6.getD i2.toNat []) .none)),(19,(.int .i64 ((a6.getD i2.toNat []).length:Int))),(20,(Z5 i6))]
def Q22(l7:Oe)(i2:Int)(a6:Oe)(i6:Int):List MQ:=[(3,(.vsl 10 l7.length)),(4,(Z5 i2)),(7,(Z5 (mt a6 i2 i6))),(11,(NU a6)),(b8 12 a6.length),(13,(Z5 i2)),(18,(AV.list 1 Aq 0 (a6.getD i2.toNat []) .none)),(19,(.int .i64 ((a6.getD i2.toNat []).length:Int))),(20,(Z5 i6))]
def Ns(a6:Oe):Option Oe:=
 Az (0<=(a6.length:Int)/\a6.length<=(a6.length:Int)/\(a6.length:Int)<=room) ((Ac   (Kn a6) (0,List.replicate (a6.length:Int).toNat [])).bind λx16=>some x16)
variable{v14:Oe}{v15:Oe}
theorem Y3(h:Ns v14=some v15):sP 138 [(NU v14)] [] (rg v15 20000) [(20000,.tok 1 22 v15.length)]:=
 sG Tryz.func138 λΓ q=>have hΓ:=q.own;gR q [0] [] [(2,xc)] [] (c1 (Bz 1 Li [])) (tV q Rm [10] h λh=>Qa (⟨(Q19 v14),[(10,.arr 1 22 ((v14.length:Int).toNat) (λi_=>AV.eraseAll (λn_=>Bv n_ [10]) ((λ_=>[Z0]) i_)))],[]⟩:St) (gLe (Le.trans (Jc (st':=⟨(Q19 v14),[(10,.arr 1 22 ((v14.length:Int).toNat) (Ox 1 Aq (0:Int) (vT v14) (λ_=>.exact)))],[]⟩) (TmpsLe.refl _) (.arr dA .nil)) (Le.trans (Le.trans (dG (r:=10) (b:=70010) Aq (0:Int) (vT v14) 3 rfl rfl (Oa ..).symm (λh_=>absurd h_ (by decide))) (Gt (st':=⟨(Q19 v14),[(10,.arr 1 22 ((v14.length:Int).toNat) (Ox 1 Aq (0:Int) (vT v14) (Tag.fam 70010)))],[(70010,⟨1,3,Nm (vT v14)⟩)]⟩) (by kernel_rfl))) (Gt (Bi (λk_:Nat=>(⟨[(0,(NU v14)),(3,(.vsl 10 k_))],[(cP 10 k_ (vT v14) 70010)],[(70010,⟨1,3,Nm (vT v14)⟩)]⟩:St)) (show(v14.length:Int).toNat=(vT v14).length from(Oa ..).symm))))) (Af q TJ Vk (tL q h TJ Vk (λu (i2,l3)=>(Cm u [(3,(.vsl 10 l3.length)),(13,(Z5 i2))] [(cP 10 l3.length l3 70010)] [(70010,⟨1,3,Nm l3⟩)])) (λu l4=>aG Γ (.exit 0) (⟨[(3,(.vsl 10 l4.length))],[(cP 10 l4.length l4 70010)],[(70010,⟨1,3,Nm l4⟩)]⟩:St)) (λ⟨i2,l3⟩ y h=>Af q [3,11,12,13,14] Vk (gC h (λh=>tV q [3,4,5,11,12,13] Vk h λh=>Af q kY Vk (tL q h kY Vk (λu (i6,l7)=>(Cm u [(3,(.vsl 10 l7.length)),(20,(Z5 i6))] [(cP 10 l7.length l7 70010)] [(70010,⟨1,3,Nm l7⟩)])) (λu l8=>aG Γ (.exit 2) (Nb TJ Vk u [(3,(.vsl 10 l8.length))] [(cP 10 l8.length l8 70010)] [(70010,⟨1,3,Nm l8⟩)])) (λ⟨i6,l7⟩ y h=>Af q [3,4,11,12,13,18,19,20,21] Vk (gC h (λh=>tV q [3,4,7,11,12,13,18,19,20] Vk h λh=>Qa (⟨(Q22 l7 i2 v14 i6),[(cP 10 l7.length l7 70010)],[(70010,⟨1,3,Nm l7⟩)]⟩:St) (tC h λc10_ h=>tC h λc11_ h=>tC h λc12_ h=>tC h λc13_ h=>gLe (Le.trans (jq (r:=10) (b:=70010) (k:=60010) Aq (0:Int) l7 (mt v14 i2 i6).toNat 3 rfl rfl rfl rfl (Qo c10_) (by kernel_rfl) (.here .nil)) (Gt (st':=⟨(Q22 l7 i2 v14 i6),[(10,.arr 1 22 l7.length (Ox 1 Aq (0:Int) l7 (Ht 70010 (mt v14 i2 i6).toNat 60010))),(60010,.tok 1 3 ((nO l7 v14 i2 i6).length))],[(70010,⟨1,3,AY l7 (mt v14 i2 i6).toNat⟩)]⟩) (by kernel_rfl))) (gR q kY [10,60010,70010] [(29,(Wa (nO l7 v14 i2 i6) 60010)),(31,(AV.list 1 Aq 0 (ru i2) .exact)),(32,(AV.list 1 Aq 0 ((nO l7 v14 i2 i6)++(ru i2)) (.own 60010)))] [] (d9_ c11_ (Eq.refl l7.length) (show(AVle (((Ox 1 Aq (0:Int) l7 (Ht 70010 (mt v14 i2 i6).toNat 60010)) (mt v14 i2 i6).toNat).getD 0 .any) (Wa (nO l7 v14 i2 i6) 60010)) from WI) (Bq 1 Aq (0:Int) (ru i2)) (Eq.refl ((nO l7 v14 i2 i6).length)) c12_ (I7 1 60010 Aq (0:Int) (nO l7 v14 i2 i6) (ru i2)) (E0 (nO l7 v14 i2 i6) (ru i2)) c13_ (c1 (Eq.refl l7.length))) (Qa (⟨(Q18 l7 i2 v14 i6),[(10,.arr 1 22 l7.length (λi_=>AV.eraseAll (λn_=>Bv n_ [10,60010,70010]) ((Fa (Ox 1 Aq (0:Int) l7 (Ht 70010 (mt v14 i2 i6).toNat 60010)) (mt v14 i2 i6).toNat 0 [(AV.list 1 Aq 0 ((nO l7 v14 i2 i6)++(ru i2)) (.own 60010))]) i_))),(60010,.tok 1 3 (((nO l7 v14 i2 i6)++(ru i2)).length))],[(70010,⟨1,3,AY l7 (mt v14 i2 i6).toNat⟩)]⟩:St) (gLe (Le.trans (Le.trans (pd (r:=10) (b:=70010) (k:=60010) Aq (0:Int) l7 (mt v14 i2 i6).toNat ((nO l7 v14 i2 i6)++(ru i2)) 3 rfl (eC (Qo c10_) rfl rfl) rfl rfl rfl rfl (Qo c10_) (by kernel_rfl) (.here (.tok .nil)) (by rw[hΓ];rfl)) (Gt (st':=⟨(Q18 l7 i2 v14 i6),[(cP 10 l7.length (xr l7 v14 i2 i6) 70010)],[(70010,⟨1,3,Nm (xr l7 v14 i2 i6)⟩)]⟩) (by kernel_rfl))) (Gt (Bi (λk_:Nat=>(⟨[(3,(.vsl 10 k_)),(4,(Z5 i2)),(11,(NU v14)),(b8 12 v14.length),(13,(Z5 i2)),(18,(AV.list 1 Aq 0 (v14.getD i2.toNat []) .none)),(19,(.int .i64 ((v14.getD i2.toNat []).length:Int))),(20,(Z5 i6))],[(cP 10 k_ (xr l7 v14 i2 i6) 70010)],[(70010,⟨1,3,Nm (xr l7 v14 i2 i6)⟩)]⟩:St)) (show l7.length=(xr l7 v14 i2 i6).length from(Db ..).symm)))) (Af q kY Vk (tN h))))))) λh=>tS h (gO (Be (Bg TJ Vk q))))) λx14 h=>gA (Af q TJ Vk (tN h)))) λh=>tS h (gO (Be (Bg [3] Vk q))))) λx16 h=>gA (Af q [2] Vk (Qa (⟨[(2,(.vsl 10 x16.length))],[(cP 10 x16.length x16 70010)],[(70010,⟨1,3,Nm x16⟩)]⟩:St) (tS h (gK (e:=.ret) (H7 [(10,20000)] (Le.trans (le_freeze (nm:=10) (sz:=1) (n:=x16.length) (e:=22) (f:=(Ox 1 Aq (0:Int) x16 (Tag.fam 70010))) (g:=(λi=>Li (x16.getD i []))) rfl ⟨rfl,trivial⟩ (λ_ _=>rfl) (by rw[hΓ];rfl)) (Bg (st':=⟨[(2,(rg x16 10))],[(10,.tok 1 22 x16.length)],[]⟩) [2] [10] q)))))))))))
def H0(a0:TFunc):yT5->Option (LR (Int×Oe) (Oe ⊕ (TGraph×Int))):=
 λ(i3,l4)=>bif decide (i3<a0.Blocks.length) then Az (A1 i3 a0.Blocks.length) ((Pf ⟨(a0.Blocks.getD i3.toNat default).End.Kind,(a0.Blocks.getD i3.toNat default).End.Arg,(a0.Blocks.getD i3.toNat default).End.To⟩ a0.Blocks.length).bind λx7=>bif !x7 then some (.done (.inr (⟨[],[]⟩,5))) else(IH (a0.Blocks.getD i3.toNat default).End.To).bind λx8=>Az (A1 i3 l4.length) (some (.next (w64 (i3+1),l4.set i3.toNat x8)))) else some (.done (.inl l4))
abbrev mp:=(TGraph×Int)
def fG(Γ:H6)(a0:TFunc)(r:mp):Exit->St->Prop:=fK Tryz.prog Γ Tryz.f82.results.toList [] (.tuple (rf r.1 r.2)) []
def ve:AV:=Z0
def xR:List MQ:=[Uj,(3,(.int .i64 (5:Int)))]
def Q29(a0:TFunc)(i3:Int):=(a0.Blocks.getD i3.toNat default)
def Q27:AV:=Z80
def Q28(a0:TFunc):=(List.replicate (a0.Blocks.length:Int).toNat ([]:Ax))
def ut:List AV:=[xc,xc]
def Tz(a0:TFunc):Option mp:=
 (Mn a0.Blocks.length).bind λx1=>bif !x1 then some (⟨[],[]⟩,5) else Az (0<=(a0.Blocks.length:Int)/\a0.Blocks.length<=(a0.Blocks.length:Int)/\a0.Blocks.length<=(room:Int)) ((Ac   (H0 a0) (0,List.replicate (a0.Blocks.length:Int).toNat [])).bind λx10=>match x10 with | .inl l5=>(Ns l5).bind λx12=>some (⟨l5,x12⟩,0) | .inr r13=>some r13)
variable{v16:mp}
theorem MA(h:Tz v0=some v16):sP 82 [(Vn v0)] [] (.tuple (rf v16.1 v16.2)) []:=
 sG Tryz.func82 λΓ q=>have hΓ:=q.own;tW q Ea Ea [1,2,4] Ea (tB h λx1 y1 h=>tT q [1,2,4,13] Ea [(Z2 x1)] (c1 (Wo y1)) (gC h (λh=>gR q Cy [2] [(14,(.agg ut))] [] (c1 (show(AVle (.agg [ve,ve]) (.agg ut)) from(AVle.agg (.cons Eh (.cons Eh .nil))))) (Qa (⟨xR,[(Pt 56 ut)],[]⟩:St) (tS h (gK (e:=.ret) (H7 [] (show Le Γ _ (⟨xR,[(mw Q27)],[]⟩:St) from Le.trans (Bg (st':=⟨xR,[(Pt 56 ut)],[]⟩) Cy [2] q) (Jc (.cons (AVle.refl _) (.cons (AVle.refl _) .nil)) (.row (.cons AVle.untag (.cons AVle.untag .nil)) .nil)))))))) λh=>tV q [1,2,4,5] [1,2,16] h λh=>by exact gLe (Le.trans (Sq 16 (show ∀ k_,k_<((v0.Blocks.length:Int).toNat)->AVleL ((λi_=>AV.eraseAll (λn_=>Bv n_ [1,2,16]) ((λ_=>[ve]) i_)) k_) ((λi=>Li ((Q28 v0).getD i [])) k_) from(λk hk=>M9 (e:=Li) (d:=[]) (.cons (λ_ _ _ _ _ hh=>AVle.untag _ _ _ _ _ (Eh _ _ _ _ _ hh)) .nil) _ k (Na hk)))) (Sc (λ(k_:Nat) u=>(Cm u [(Vm 16 k_)] [(16,.arr 1 22 k_ (λi=>Li ((Q28 v0).getD i [])))])) (show(v0.Blocks.length:Int).toNat=(Q28 v0).length from(Oa ..).symm))) (Af q bj V7 (tL q h bj V7 (λu (i3,l4)=>(Cm u [(Vm 16 l4.length),(20,(Z5 i3))] [(16,.arr 1 22 l4.length (λi=>Li (l4.getD i [])))])) (λu x_=>match x_ with|(.inl l5)=>aG Γ (.exit 0) (Nb V8 V7 u [(Vm 16 l5.length)] [(16,.arr 1 22 l5.length (λi=>Li (l5.getD i [])))])|(.inr r_)=>aR (fG Γ v0 r_)) (λ⟨i3,l4⟩ y h=>Af q [2,4,5,18,19,20,21] V7 (gC h (λh=>tV q [2,4,5,6,7,18,19,20] [2,7,16] h λh=>tB h λx7 y7 h=>tT q [2,4,5,6,7,18,19,20,29] [2,7,16] [(Z2 x7)] (c1 (JZ y7)) (gC h (λh=>gR q Cy [2] [(30,(.agg ut))] [] (c1 (show(AVle (.agg [ve,ve]) (.agg ut)) from(AVle.agg (.cons Eh (.cons Eh .nil))))) (Qa (⟨xR,[(Pt 56 ut)],[]⟩:St) (tS h (gO (Lo (H7 [] (show Le Γ _ (⟨xR,[(mw Q27)],[]⟩:St) from Le.trans (Bg (st':=⟨xR,[(Pt 56 ut)],[]⟩) Cy [2] q) (Jc (.cons (AVle.refl _) (.cons (AVle.refl _) .nil)) (.row (.cons AVle.untag (.cons AVle.untag .nil)) .nil))))))))) λh=>tB h λx8 y8 h=>tC h λc9_ h=>tT q bj V7 [⟨[],[],(Z6 x8),[],[],[]⟩] (c3 (iP ((Q29 v0 i3).End.To) x8 y8) c9_ (Eq.refl l4.length)) (gLe (Le.trans (Sq 16 (show ∀ k_,k_<l4.length->AVleL ((λi_=>AV.eraseAll (λn_=>Bv n_ V7) ((Fa (λi=>Li (l4.getD i [])) i3.toNat 0 [(Z6 x8)]) i_)) k_) ((λi=>Li ((l4.set i3.toNat x8).getD i [])) k_) from(Bh (Db ..).symm (λk_ hk_=>(Bi (AV.eraseAll (λn_=>Bv n_ V7)) ((Fs (λ_ _=>rfl) (Hx c9_) rfl) k_ hk_)).trans rfl)))) (Sc (λ(k_:Nat) u=>(Cm u [(Vm 16 k_)] [(16,.arr 1 22 k_ (λi=>Li ((l4.set i3.toNat x8).getD i [])))])) (show l4.length=(l4.set i3.toNat x8).length from(Db ..).symm))) (Af q bj V7 (tN h))))) λh=>tS h (gO (Be (Bg V8 V7 q))))) λx10 h=>(match x10,h with | .inl l5,h=>gA (Qa (⟨[Uj,(Vm 16 l5.length)],[(mw ve),(16,.arr 1 22 l5.length (λi=>Li (l5.getD i [])))],[]⟩:St) (gLe (Le.trans (le_freeze (nm:=16) (sz:=1) (n:=l5.length) (e:=22) (f:=(λi=>Li (l5.getD i []))) (g:=(λi=>Li (l5.getD i []))) rfl ⟨rfl,trivial⟩ (λ_ _=>rfl) (by rw[hΓ];rfl)) (Gt (st':=⟨[Uj,(5,(rg l5 16))],[(mw ve),(16,.tok 1 22 l5.length)],[]⟩) (by kernel_rfl))) (tB h λx12 y12 h=>tT q Cy [2,16,41] [⟨[],[(20000,41)],(rg x12 20000),[(20000,.tok 1 22 x12.length)],[],[]⟩] (c1 (Y3 y12)) (tS h (Ca []))))) | .inr r13,h=>O3 (λst' hk=>tS h (gK hk)))))))
def Hu(a6:Oe)(i2:Int):J8->Option (LR (Int×Int) (Unit ⊕ Bool)):=
 λ(i4,i5)=>bif decide (i5<(a6.getD i2.toNat []).length) then Az (A1 i5 (a6.getD i2.toNat []).length) ((bif decide ((a6.getD i2.toNat []).getD i5.toNat 0<=i4)==false then Kd ((a6.getD i2.toNat []).getD i5.toNat 0) a6.length else some false).bind λx7=>bif bif decide ((a6.getD i2.toNat []).getD i5.toNat 0<=i4) then true else !x7 then some (.done (.inr false)) else some (.next ((a6.getD i2.toNat []).getD i5.toNat 0,w64 (i5+1)))) else some (.done (.inl ()))
def Dv(a6:Oe):Int->Option (LR Int (Unit ⊕ Bool)):=
 λi2=>bif decide (i2<a6.length) then Az (A1 i2 a6.length) ((Ac   (Hu a6 i2) (-1,0)).bind λx8=>match x8 with | .inl _=>some (.next (w64 (i2+1))) | .inr r10=>some (.done (.inr r10))) else some (.done (.inl ()))
def Yt(Γ:H6)(a6:Oe)(r:Bool):Exit->St->Prop:=fK Tryz.prog Γ Tryz.f238.results.toList [] (.bool r) []
def Q30(a6:Oe)(i2:Int)(i5:Int)(i4:Int):=(decide (((a6.getD i2.toNat []).getD i5.toNat 0)<=i4))
def Pg(a6:Oe):Option Bool:=
 (Mn a6.length).bind λx1=>bif !x1 then some false else(Ac   (Dv a6) 0).bind λx11=>match x11 with | .inl _=>some true | .inr r13=>some r13
theorem KA(h:Pg v14=some v3):sP 238 [(NU v14)] [] (.bool v3) []:=
 sG Tryz.func238 λΓ q=>Af q [0] [] (tB h λx1 y1 h=>tT q [0,11] [] [(Z2 x1)] (c1 (Wo y1)) (gC h (λh=>Af q [2] [] (tS h (Ca []))) λh=>Af q TK [] (tL q h TK [] (λu i2=>(Cm u [(14,(Z5 i2))] [])) (λu x_=>match x_ with|(.inl _)=>aG Γ (.exit 0) (⟨[],[],[]⟩:St)|(.inr r_)=>aR (Yt Γ v14 r_)) (λi2 y h=>Af q [0,12,13,14,15] [] (gC h (λh=>tV q [0,4,12,13,14] [] h λh=>tW q [0,4,5,12,13,14] [] kZ [] (tL q h kZ [] (λu (i4,i5)=>(Cm u [(5,(Z5 i4)),(20,(Z5 i5))] [])) (λu x_=>match x_ with|(.inl _)=>aG Γ (.exit 2) (Nb TK [] u [] [])|(.inr r_)=>aR (Yt Γ v14 r_)) (λ⟨i4,i5⟩ y h=>Af q [0,5,12,13,14,18,19,20,21] [] (gC h (λh=>tV q [0,5,7,12,13,14,18,19,20] [] h λh=>tB h λx7 y7 h=>tT q [0,7,12,13,14,18,19,20,33] [] [(Z2 x7)] (Yy ((Q30 v14 i2 i5 i4)==false) (c3 (λ(hg:((Q30 v14 i2 i5 i4)==false)=true)=>(Rv (A9 hg y7))) (gI ((Q30 v14 i2 i5 i4)==false)) (L5 (Q30 v14 i2 i5 i4)))) (gC h (λh=>Af q [2] [] (tS h (gO (Lo (H7 [] (Le.refl _ _)))))) λh=>tW q kZ [] kZ [] (tN h))) λh=>tS h (gO (Be (Bg TK [] q))))) λx8 h=>(match x8,h with | .inl _,h=>gA (Af q TK [] (tN h)) | .inr r10,h=>O3 (λst' hk=>tS h (gO (Lo hk)))))) λh=>tS h (gO (Be (Bg [] [] q))))) λx11 h=>(match x11,h with | .inl _,h=>gA (Af q [2] [] (tS h (Ca []))) | .inr r13,h=>O3 (λst' hk=>tS h (gK hk))))))
def E4(aY:Ax)(aa0:Ax):Int->Option (LR Int (Unit ⊕ Bool)):=
 λi1=>bif decide (i1<aY.length) then Az (A1 i1 aY.length) (Az (A1 i1 aa0.length) (bif aY.getD i1.toNat 0 !=aa0.getD i1.toNat 0 then some (.done (.inr false)) else some (.next (w64 (i1+1))))) else some (.done (.inl ()))
def Xh(Γ:H6)(aY:Ax)(aa0:Ax)(r:Bool):Exit->St->Prop:=fK Tryz.prog Γ Tryz.f185.results.toList [] (.bool r) []
def G2(aY:Ax)(aa0:Ax):Option Bool:=
 bif (aY.length:Int)!=aa0.length then some false else(Ac   (E4 aY aa0) 0).bind λx4=>match x4 with | .inl _=>some true | .inr r6=>some r6
variable{v17:Ax}
theorem Px(h:G2 v2 v17=some v3):sP 185 [(Z6 v2),(Z6 v17)] [] (.bool v3) []:=
 sG Tryz.func185 λΓ q=>tW q Gm [] Yr [] (gC h (λh=>Af q [4] [] (tS h (Ca []))) λh=>Af q iz [] (tL q h iz [] (λu i1=>(Cm u [(13,(Z5 i1))] [])) (λu x_=>match x_ with|(.inl _)=>aG Γ (.exit 0) (⟨[],[],[]⟩:St)|(.inr r_)=>aR (Xh Γ v2 v17 r_)) (λi1 y h=>Af q [0,1,12,13,14] [] (gC h (λh=>Af q [0,1,5,12,13] [] (tC h λc2_ h=>tC h λc3_ h=>tU q [0,1,12,13,24] [] (c2 c2_ c3_) (gC h (λh=>Af q [4] [] (tS h (gO (Lo (H7 [] (Le.refl _ _)))))) λh=>Af q iz [] (tN h)))) λh=>tS h (gO (Be (Bg [] [] q))))) λx4 h=>(match x4,h with | .inl _,h=>gA (Af q [4] [] (tS h (Ca []))) | .inr r6,h=>O3 (λst' hk=>tS h (gK hk)))))
def B4(aY:Oe)(aa0:Oe):Int->Option (LR Int (Unit ⊕ Bool)):=
 λi1=>bif decide (i1<aY.length) then Az (A1 i1 aY.length) (Az (A1 i1 aa0.length) ((G2 (aY.getD i1.toNat []) (aa0.getD i1.toNat [])).bind λx4=>bif !x4 then some (.done (.inr false)) else some (.next (w64 (i1+1))))) else some (.done (.inl ()))
def Pj(Γ:H6)(aY:Oe)(aa0:Oe)(r:Bool):Exit->St->Prop:=fK Tryz.prog Γ Tryz.f239.results.toList [] (.bool r) []
def Dw(aY:Oe)(aa0:Oe):Option Bool:=
 bif (aY.length:Int)!=aa0.length then some false else(Ac   (B4 aY aa0) 0).bind λx5=>match x5 with | .inl _=>some true | .inr r7=>some r7
theorem O6(h:Dw v14 v15=some v3):sP 239 [(NU v14),(NU v15),(.clo 185 [] [])] [] (.bool v3) []:=
 sG Tryz.func239 λΓ q=>tW q UC [] [0,1,2,14] [] (gC h (λh=>Af q [6] [] (tS h (Ca []))) λh=>Af q ia [] (tL q h ia [] (λu i1=>(Cm u [(17,(Z5 i1))] [])) (λu x_=>match x_ with|(.inl _)=>aG Γ (.exit 0) (⟨[],[],[]⟩:St)|(.inr r_)=>aR (Pj Γ v14 v15 r_)) (λi1 y h=>Af q [1,2,15,16,17,18] [] (gC h (λh=>tV q [1,2,7,8,15,16,17] [] h λh=>tV q [1,2,8,9,15,16,17] [] h λh=>tB h λx4 y4 h=>tT q [1,2,15,16,17,30] [] [(Z2 x4)] (c1 (Px y4)) (gC h (λh=>Af q [6] [] (tS h (gO (Lo (H7 [] (Le.refl _ _)))))) λh=>Af q ia [] (tN h))) λh=>tS h (gO (Be (Bg [] [] q))))) λx5 h=>(match x5,h with | .inl _,h=>gA (Af q [6] [] (tS h (Ca []))) | .inr r7,h=>O3 (λst' hk=>tS h (gK hk)))))
def Uv(a4:TGraph):Option Bool:=
 (Pg a4.Succ).bind λx1=>(bif x1==true then Ns a4.Succ else some []).bind λx2=>(bif x1==true then Dw a4.Pred x2 else some false).bind λx3=>some (bif x1 then x3 else false)
variable{v18:TGraph}
theorem bI(h:Uv v18=some v3):sP 195 [(.agg (Xo v18))] [] (.bool v3) []:=
 sG Tryz.func195 λΓ q=>Af q [1] [1] (tB h λx1 y1 h=>tB h λx2 y2 h=>tB h λx3 y3 h=>tT q [2] [] [(Z2 x1),⟨[],[],(NU x2),[],[],[]⟩,(Z2 x3)] (ci (KA y1) (Yy (x1==true) (ci (show((x1==true)=true->(sP 138 [(NU v18.Succ)] [] (NU x2) [])) from(λhg=>(Spec.drop (Y3 (A9 hg y2))))) (Md (x1==true) (c2 (λ(hg:(x1==true)=true)=>(O6 (A9 hg y3))) (Ml x1)))))) (tS h (Ca [])))
def Bk :(Int×Int×Ax)->Option (LR (Int×Int×Ax) Ax):=
 λ(i1,i2,l3)=>bif decide (i1<i2) then Az (A1 i2 l3.length) (Az (A1 i1 l3.length) (Az (A1 i1 l3.length) (Az (A1 i2 l3.length) (some (.next (w64 (i1+1),w64 (i2-1),(l3.set i1.toNat (l3.getD i2.toNat 0)).set i2.toNat (l3.getD i1.toNat 0))))))) else some (.done l3)
def Q31(l3:Ax)(i1:Int)(i2:Int):=((l3.set i1.toNat (l3.getD i2.toNat 0)).set i2.toNat (l3.getD i1.toNat 0))
def Fq(aJ:Ax):Option Ax:=
 (Ac   Bk (0,w64 (aJ.length-1),aJ)).bind λx9=>some x9
theorem Oo(h:Fq v2=some v17):sP 196 [(.vsl 34000 v2.length)] [(Z4 34000 v2)] (.tuple []) [(Z4 34000 v17)]:=
 sG Tryz.func196 λΓ q=>Af q [0,2,3] [34000] (tL q h [0,2,3] [34000] (λu (i1,i2,l3)=>(Cm u [(my l3.length),(2,(Z5 i1)),(3,(Z5 i2))] [(Z4 34000 l3)])) (λu l4=>aG Γ (.exit 0) (⟨[],[(Z4 34000 l4)],[]⟩:St)) (λ⟨i1,i2,l3⟩ y h=>Af q [0,2,3,9] [34000] (gC h (λh=>tC h λc5_ h=>tC h λc6_ h=>tC h λc7_ h=>tC h λc8_ h=>tU q [0,2,3] [34000] (c8 c5_ (Eq.refl l3.length) c6_ (Eq.refl l3.length) c7_ (Eq.refl l3.length) c8_ (Eq.refl l3.length)) (gLe (Le.trans (Sq 34000 (show ∀ k_,k_<l3.length->AVleL ((λi_=>AV.eraseAll (λn_=>Bv n_ [34000]) ((Fa (Fa (λi=>Aq (l3.getD i 0)) i1.toNat 0 [(.int .i64 (l3.getD i2.toNat 0))]) i2.toNat 0 [(.int .i64 (l3.getD i1.toNat 0))]) i_)) k_) ((λi=>Aq ((Q31 l3 i1 i2).getD i 0)) k_) from(Bh (Eq.trans (Db ..).symm (Db ..).symm) (λk_ hk_=>(Bi (AV.eraseAll (λn_=>Bv n_ [34000])) ((Fs (Fs (λ_ _=>rfl) (Hx c7_) rfl) (tR c8_) rfl) k_ hk_)).trans rfl)))) (Sc (λ(k_:Nat) u=>(Cm u [(my k_)] [(34000,.arr 1 3 k_ (λi=>Aq ((Q31 l3 i1 i2).getD i 0)))])) (show l3.length=(Q31 l3 i1 i2).length from(Eq.trans (Db ..).symm (Db ..).symm)))) (Af q [0,2,3] [34000] (tN h)))) λh=>tS h (gO (Be (Bg [] [34000] q))))) λx9 h=>vB (λst' hl10=>tS h (gK (e:=.normal) (H7 TI hl10))))
abbrev yT8:=(LR Ax (Ax ⊕ (List Bool×Ax×Ax)))
def JO(a4:TGraph)(a2:Int):Ax->Option yT8:=
 λl9=>Az (A1 ([a2].getD (w64 ([a2].length-1)).toNat 0) 64) (Az (A1 ([a2].getD (w64 ([a2].length-1)).toNat 0) a4.Succ.length) (bif decide (l9.getD ([a2].getD (w64 ([a2].length-1)).toNat 0).toNat 0<(a4.Succ.getD ([a2].getD (w64 ([a2].length-1)).toNat 0).toNat []).length) then Az (A1 ([a2].getD (w64 ([a2].length-1)).toNat 0) a4.Succ.length) (Az (A1 ([a2].getD (w64 ([a2].length-1)).toNat 0) 64) (Az (A1 (l9.getD ([a2].getD (w64 ([a2].length-1)).toNat 0).toNat 0) (a4.Succ.getD ([a2].getD (w64 ([a2].length-1)).toNat 0).toNat []).length) (Az (A1 ([a2].getD (w64 ([a2].length-1)).toNat 0) 64) (Az (A1 ([a2].getD (w64 ([a2].length-1)).toNat 0) 64) (Az (A1 ((a4.Succ.getD ([a2].getD (w64 ([a2].length-1)).toNat 0).toNat []).getD (l9.getD ([a2].getD (w64 ([a2].length-1)).toNat 0).toNat 0).toNat 0) 64) (bif !(P8 64 false (List.replicate 64 false) a2.toNat true).getD ((a4.Succ.getD ([a2].getD (w64 ([a2].length-1)).toNat 0).toNat []).getD (l9.getD ([a2].getD (w64 ([a2].length-1)).toNat 0).toNat 0).toNat 0).toNat false then Az (A1 ((a4.Succ.getD ([a2].getD (w64 ([a2].length-1)).toNat 0).toNat []).getD (l9.getD ([a2].getD (w64 ([a2].length-1)).toNat 0).toNat 0).toNat 0) 64) (Az ([a2].length+[(a4.Succ.getD ([a2].getD (w64 ([a2].length-1)).toNat 0).toNat []).getD (l9.getD ([a2].getD (w64 ([a2].length-1)).toNat 0).toNat 0).toNat 0].length<=room) (some (.done (.inr (P8 64 false (P8 64 false (List.replicate 64 false) a2.toNat true) ((a4.Succ.getD ([a2].getD (w64 ([a2].length-1)).toNat 0).toNat []).getD (l9.getD ([a2].getD (w64 ([a2].length-1)).toNat 0).toNat 0).toNat 0).toNat true,P8 64 0 l9 ([a2].getD (w64 ([a2].length-1)).toNat 0).toNat (w64 (l9.getD ([a2].getD (w64 ([a2].length-1)).toNat 0).toNat 0+1)),[a2]++[(a4.Succ.getD ([a2].getD (w64 ([a2].length-1)).toNat 0).toNat []).getD (l9.getD ([a2].getD (w64 ([a2].length-1)).toNat 0).toNat 0).toNat 0]))))) else some (.next (P8 64 0 l9 ([a2].getD (w64 ([a2].length-1)).toNat 0).toNat (w64 (l9.getD ([a2].getD (w64 ([a2].length-1)).toNat 0).toNat 0+1)))))))))) else some (.done (.inl l9))))
def Jh(a4:TGraph)(l1:List Bool)(l3:Ax):Ax->Option yT8:=
 λl32=>Az (A1 (l3.getD (w64 (l3.length-1)).toNat 0) 64) (Az (A1 (l3.getD (w64 (l3.length-1)).toNat 0) a4.Succ.length) (bif decide (l32.getD (l3.getD (w64 (l3.length-1)).toNat 0).toNat 0<(a4.Succ.getD (l3.getD (w64 (l3.length-1)).toNat 0).toNat []).length) then Az (A1 (l3.getD (w64 (l3.length-1)).toNat 0) a4.Succ.length) (Az (A1 (l3.getD (w64 (l3.length-1)).toNat 0) 64) (Az (A1 (l32.getD (l3.getD (w64 (l3.length-1)).toNat 0).toNat 0) (a4.Succ.getD (l3.getD (w64 (l3.length-1)).toNat 0).toNat []).length) (Az (A1 (l3.getD (w64 (l3.length-1)).toNat 0) 64) (Az (A1 (l3.getD (w64 (l3.length-1)).toNat 0) 64) (Az (A1 ((a4.Succ.getD (l3.getD (w64 (l3.length-1)).toNat 0).toNat []).getD (l32.getD (l3.getD (w64 (l3.length-1)).toNat 0).toNat 0).toNat 0) 64) (bif !l1.getD ((a4.Succ.getD (l3.getD (w64 (l3.length-1)).toNat 0).toNat []).getD (l32.getD (l3.getD (w64 (l3.length-1)).toNat 0).toNat 0).toNat 0).toNat false then Az (A1 ((a4.Succ.getD (l3.getD (w64 (l3.length-1)).toNat 0).toNat []).getD (l32.getD (l3.getD (w64 (l3.length-1)).toNat 0).toNat 0).toNat 0) 64) (Az (l3.length+[(a4.Succ.getD (l3.getD (w64 (l3.length-1)).toNat 0).toNat []).getD (l32.getD (l3.getD (w64 (l3.length-1)).toNat 0).toNat 0).toNat 0].length<=room) (some (.done (.inr (P8 64 false l1 ((a4.Succ.getD (l3.getD (w64 (l3.length-1)).toNat 0).toNat []).getD (l32.getD (l3.getD (w64 (l3.length-1)).toNat 0).toNat 0).toNat 0).toNat true,P8 64 0 l32 (l3.getD (w64 (l3.length-1)).toNat 0).toNat (w64 (l32.getD (l3.getD (w64 (l3.length-1)).toNat 0).toNat 0+1)),l3++[(a4.Succ.getD (l3.getD (w64 (l3.length-1)).toNat 0).toNat []).getD (l32.getD (l3.getD (w64 (l3.length-1)).toNat 0).toNat 0).toNat 0]))))) else some (.next (P8 64 0 l32 (l3.getD (w64 (l3.length-1)).toNat 0).toNat (w64 (l32.getD (l3.getD (w64 (l3.length-1)).toNat 0).toNat 0+1)))))))))) else some (.done (.inl l32))))
abbrev yT9:=(List Bool×Ax×Ax×Ax)
def E1(a4:TGraph):yT9->Option (LR (List Bool×Ax×Ax×Ax) Ax):=
 λs_=>match s_ with|(l1,l2,l3,l4)=>Az (A1 (w64 (l3.length-1)) l3.length) ((Ac   (Jh a4 l1 l3) l2).bind λx47=>match x47 with | .inl l33=>Az (l4.length+[l3.getD (w64 (l3.length-1)).toNat 0].length<=room) (Az (0<=w64 (l3.length-1)/\0+(w64 (l3.length-1)).toNat<=l3.length) (bif decide (0<((l3.take (w64 (l3.length-1)).toNat).length:Int)) then some (.next (l1,l33,l3.take (w64 (l3.length-1)).toNat,l4++[l3.getD (w64 (l3.length-1)).toNat 0])) else(Fq (l4++[l3.getD (w64 (l3.length-1)).toNat 0])).bind λx51=>Az ((l4++[l3.getD (w64 (l3.length-1)).toNat 0]).length=x51.length) (some (.done x51)))) | .inr (l34,l35,l36)=>some (.next (l34,l35,l36,l4)))
def US(Γ:H6)(a4:TGraph)(a2:Int)(r:Ax):Exit->St->Prop:=fK Tryz.prog Γ Tryz.f151.results.toList [] (Wa r 20000) [(Yu 20000 r.length)]
def xU(l1:List Bool):=(λi=>eB (l1.getD i false))
def mu(l3:Ax):=(l3.getD (w64 ((l3.length:Int)-1)).toNat (0:Int))
def nq(l4:Ax)(l3:Ax):=(l4++([(mu l3)]:Ax))
def yV(l10:Ax):=(λi=>Aq (l10.getD i 0))
def ye(l33:Ax):=(λi=>Aq (l33.getD i 0))
def e8:=(λn_=>Bv n_ [2,5,6,25,36007])
def vn(a2:Int):=(λi=>Aq ([a2].getD i 0))
def jE(a2:Int):=([a2].getD (w64 (([a2].length:Int)-1)).toNat (0:Int))
def rZ(a2:Int):=(([]:Ax)++([(jE a2)]:Ax))
def xW(a2:Int):=(λi=>Aq ((rZ a2).getD i 0))
def xV(l4:Ax)(l3:Ax):=(λi=>Aq ((nq l4 l3).getD i 0))
def xT:AV:=fU
def Q42:=(λi=>Aq (([]:Ax).getD i 0))
def vl(l3:Ax):=(0+(w64 ((l3.length:Int)-1)).toNat)
def xS(a2:Int):=(0+(w64 (([a2].length:Int)-1)).toNat)
def Q52(a2:Int):=([a2].take (w64 (([a2].length:Int)-1)).toNat)
def Q41:=(λi=>Aq ((List.replicate 64 (0:Int)).getD i 0))
def nY(a4:TGraph):List AV:=[(NU a4.Succ),(NU a4.Pred)]
def uu(a2:Int):=(λi=>eB ((P8 64 false (List.replicate 64 false) a2.toNat true).getD i false))
def rY(a4:TGraph)(l3:Ax)(l32:Ax):=((a4.Succ.getD (mu l3).toNat []).getD (l32.getD (mu l3).toNat (0:Int)).toNat (0:Int))
def rX(a4:TGraph)(a2:Int)(l9:Ax):=((a4.Succ.getD (jE a2).toNat []).getD (l9.getD (jE a2).toNat (0:Int)).toNat (0:Int))
def Q51:=(Z33:St)
def Q55(a2:Int):List MQ:=[Uj,n8,n7,(7,(.vsl 36007 (rZ a2).length)),(8,(.vsl 25 (xS a2)))]
def Q48(a2:Int)(a4:TGraph):=(⟨[Uj,n8,n7,(7,(.vsl 36007 ([]:Ax).length)),(8,(.vsl 25 [a2].length)),(9,(Z5 (jE a2)))],[(Pt 56 (nY a4)),(OW (uu a2)),(mz Q41),(25,.arr 1 3 ([a2].length) (vn a2)),(36007,.arr 1 3 (([]:Ax).length) Q42)],[]⟩:St)
def Ld(a4:TGraph)(a2:Int):Option Ax:=
 (Rz   ((Uv a4).bind λx5=>(bif (!x5)==false then Kd a2 a4.Succ.length else some false).bind λx6=>bif bif !x5 then true else !x6 then some (.done []) else Az (A1 a2 64) (Az (A1 (w64 ([a2].length-1)) [a2].length) ((Ac   (JO a4 a2) (List.replicate 64 0)).bind λx24=>match x24 with | .inl l10=>Az (([]:Ax).length+[[a2].getD (w64 ([a2].length-1)).toNat 0].length<=room) (Az (0<=w64 ([a2].length-1)/\0+(w64 ([a2].length-1)).toNat<=[a2].length) (bif decide (0<(([a2].take (w64 ([a2].length-1)).toNat).length:Int)) then some (.next (P8 64 false (List.replicate 64 false) a2.toNat true,l10,[a2].take (w64 ([a2].length-1)).toNat,[]++[[a2].getD (w64 ([a2].length-1)).toNat 0])) else(Fq ([]++[[a2].getD (w64 ([a2].length-1)).toNat 0])).bind λx28=>Az (([]++[[a2].getD (w64 ([a2].length-1)).toNat 0]).length=x28.length) (some (.done x28)))) | .inr (l11,l12,l13)=>some (.next (l11,l12,l13,[]))))) (E1 a4)).bind λx54=>some x54
theorem BH(h:Ld v18 v1=some v2):sP 151 (rf v18 v1) [] (Wa v2 20000) [(Yu 20000 v2.length)]:=
 sG Tryz.func151 λΓ q=>have hΓ:=q.own;gR q Ea [2] [(4,xT)] [] (c1 (Bz 1 Aq (0:Int))) (tB h λx54 y54 h=>gS y54 (λ(s_:yT9)=>match s_ with|(l1,l2,l3,l4)=>0) (λ(s_:yT9)=>match s_ with|(l1,l2,l3,l4)=>(⟨[Uj,n8,n7,(Vo 36007 l4.length),(8,(.vsl 25 l3.length))],[(Pt 56 (nY v18)),(OW (xU l1)),(yq l2),(Z4 25 l3),(Z4 36007 l4)],[]⟩:St)) (λr_=>aR (US Γ v18 v1 r_)) (λy h=>tB h λx5 y5 h=>tB h λx6 y6 h=>tT q [1,2,21] [2] [(Z2 x5),(Z2 x6)] (ci (bI y5) (LO ((!x5)==false) (c3 (λ(hg:((!x5)==false)=true)=>(Rv (A9 hg y6))) (gI ((!x5)==false)) (L5 (!x5))))) (gC h (λh=>gR q [4] [] [(4,xT)] [] (c1 (Bz 1 Aq (0:Int))) (Qa (⟨[(4,xT)],[],[]⟩:St) (tS h (fB (Lo (H7 bo (show Le Γ _ Q51 from Le.trans (Bg (st':=⟨[(4,xT)],[],[]⟩) [4] [] q) (Le.trans (Ro (t:=4) (nm:=6004) (sz':=1) Q42 3 rfl rfl (.inl ⟨rfl,rfl⟩) (λh_=>absurd h_ (by decide))) (Bg (st':=Q51) [4] [6004] q))))))))) λh=>gR q V6 V8 [n8] [] trivial (gLe (Sq 5 (show ∀ k_,k_<64->AVleL ((λi_=>AV.eraseAll (λn_=>Bv n_ V8) ((λi=>(((List.replicate 64 [(.bool false)]).flatten).drop (i*1)).take 1) i_)) k_) ((λi=>eB ((List.replicate 64 false).getD i false)) k_) from(WH (e:=eB) (d:=false) (z:=[(.bool false)]) rfl rfl rfl))) (gR q [1,2,5,6] Xe [n7] [] trivial (gLe (Sq 6 (show ∀ k_,k_<64->AVleL ((λi_=>AV.eraseAll (λn_=>Bv n_ Xe) ((λi=>(((List.replicate 64 [L9]).flatten).drop (i*1)).take 1) i_)) k_) (Q41 k_) from(WH (e:=Aq) (d:=(0:Int)) (z:=[L9]) rfl rfl rfl))) (gR q il Xe [(7,xT)] [] (c1 (Bz 1 Aq (0:Int))) (tC h λc7_ h=>tU q il Xe (c2 c7_ (Eq.refl 64)) (gLe (Sq 5 (show ∀ k_,k_<64->AVleL ((λi_=>AV.eraseAll (λn_=>Bv n_ Xe) ((Fa (λi=>eB ((List.replicate 64 false).getD i false)) v1.toNat 0 [(.bool true)]) i_)) k_) ((uu v1) k_) from(Bh rfl (λk_ hk_=>(Bi (AV.eraseAll (λn_=>Bv n_ Xe)) ((Wr (λ_ _=>rfl) (Qo c7_) rfl) k_ hk_)).trans rfl)))) (gR q CS bt [(25,(.vsl 25 1))] [] trivial (gLe (Le.trans (Sq 25 (show ∀ k_,k_<1->AVleL ((λi_=>AV.eraseAll (λn_=>Bv n_ bt) ((λi_=>([(Z5 v1)].drop (i_*1)).take 1) i_)) k_) ((vn v1) k_) from(Bh rfl (bU (n:=0) g6 rfl)))) (Sc (λ(k_:Nat) u=>(Cm u [(8,(.vsl 25 k_))] [(25,.arr 1 3 k_ (vn v1))])) (show 1=[v1].length from rfl))) (tC h λc8_ h=>tU q EZ bt (c2 c8_ (Eq.refl ([v1].length))) (gLe (st':=(Q48 v1 v18)) (Le.trans (Bg (st':=⟨[Uj,n8,n7,(7,xT),(8,(.vsl 25 [v1].length)),(9,(Z5 (jE v1)))],[(Pt 56 (nY v18)),(OW (uu v1)),(mz Q41),(25,.arr 1 3 ([v1].length) (vn v1))],[]⟩) EZ bt q) (Le.trans (QL (t:=7) (nm:=36007) (sz':=1) Q42 3 rfl rfl) (Bg (st':=(Q48 v1 v18)) EZ P9 q))) (tL q h EZ P9 (λu l9=>(Cm u [] [(yq l9)])) (λu x_=>match x_ with|(.inl l10)=>aG Γ (.exit 0) (Cm u [] [(mz (yV l10))])|(.inr (l11,l12,l13))=>aG Γ (.goto 0) (Nb CS P9 u [(8,(.vsl 25 l13.length))] [(5,.arr 1 230 64 (λi=>eB (l11.getD i false))),(yq l12),(Z4 25 l13)])) (λl9 y h=>tC h λc14_ h=>tC h λc15_ h=>tU q [2,5,6,7,8,9,41] P9 (c3 c14_ (Eq.refl 64) c15_) (gC h (λh=>tC h λc16_ h=>tC h λc17_ h=>tC h λc18_ h=>tU q bi P9 (c4 c16_ c17_ (Eq.refl 64) c18_) (tC h λc19_ h=>tC h λc20_ h=>tU q bi P9 (c4 c19_ (Eq.refl 64) c20_ (Eq.refl 64)) (gLe (Sq 6 (show ∀ k_,k_<64->AVleL ((λi_=>AV.eraseAll e8 ((Fa (λi=>Aq (l9.getD i 0)) (jE v1).toNat 0 [(.int .i64 (w64 ((l9.getD (jE v1).toNat (0:Int))+1)))]) i_)) k_) ((λi=>Aq ((P8 64 (0:Int) l9 (jE v1).toNat (w64 ((l9.getD (jE v1).toNat (0:Int))+1))).getD i 0)) k_) from(Bh rfl (λk_ hk_=>(Bi (AV.eraseAll e8) ((Wr (λ_ _=>rfl) (Qo c20_) rfl) k_ hk_)).trans rfl)))) (tC h λc21_ h=>tU q rL P9 (c2 c21_ (Eq.refl 64)) (gC h (λh=>tC h λc22_ h=>tU q [2,5,6,7,8,10] P9 (c2 c22_ (Eq.refl 64)) (gLe (Sq 5 (show ∀ k_,k_<64->AVleL ((λi_=>AV.eraseAll e8 ((Fa (uu v1) (rX v18 v1 l9).toNat 0 [(.bool true)]) i_)) k_) ((λi=>eB ((P8 64 false (P8 64 false (List.replicate 64 false) v1.toNat true) (rX v18 v1 l9).toNat true).getD i false)) k_) from(Bh rfl (λk_ hk_=>(Bi (AV.eraseAll e8) ((Wr (λ_ _=>rfl) (Qo c22_) rfl) k_ hk_)).trans rfl)))) (tC h λc23_ h=>gR q CS P9 [(65,(uy (rX v18 v1 l9)))] [] (c3 (Bq 1 Aq (0:Int) ([(rX v18 v1 l9)]:Ax)) (Eq.refl ([v1].length)) c23_) (tS h (gO (Be (Le.trans (Le.trans (Sq 25 (show ∀ k_,k_<([v1].length+([(rX v18 v1 l9)]:Ax).length)->AVleL ((λi_=>AV.eraseAll e8 ((O1 ([v1].length) (vn v1) (λi=>Aq (([(rX v18 v1 l9)]:Ax).getD i 0))) i_)) k_) ((λi=>Aq (([v1]++([(rX v18 v1 l9)]:Ax)).getD i 0)) k_) from(Bh (E0 _ _) (λk_ hk_=>(Bi (AV.eraseAll e8) ((GR (λ_ _=>rfl) (λ_ _=>rfl)) k_ hk_)).trans rfl)))) (Sc (λ(k_:Nat) u=>(Cm u [(8,(.vsl 25 k_))] [(25,.arr 1 3 k_ (λi=>Aq (([v1]++([(rX v18 v1 l9)]:Ax)).getD i 0)))])) (show([v1].length+([(rX v18 v1 l9)]:Ax).length)=([v1]++([(rX v18 v1 l9)]:Ax)).length from(E0 _ _)))) H8))))))) λh=>tS h (gN (Bg EZ P9 q))))))) λh=>tS h (gO (Be (Bg EZ P9 q))))) λx24 h=>(match x24,h with | .inl l10,h=>gA (tC h λc26_ h=>gR q CS P9 [(69,(uy (jE v1)))] [] (c3 (Bq 1 Aq (0:Int) ([(jE v1)]:Ax)) (Eq.refl (([]:Ax).length)) c26_) (gLe (Le.trans (Sq 36007 (show ∀ k_,k_<(([]:Ax).length+([(jE v1)]:Ax).length)->AVleL ((λi_=>AV.eraseAll e8 ((O1 (([]:Ax).length) Q42 (λi=>Aq (([(jE v1)]:Ax).getD i 0))) i_)) k_) ((xW v1) k_) from(Bh (E0 _ _) (λk_ hk_=>(Bi (AV.eraseAll e8) ((GR (λ_ _=>rfl) (λ_ _=>rfl)) k_ hk_)).trans rfl)))) (Sc (λ(k_:Nat) u=>(Cm u [(Vo 36007 k_)] [(36007,.arr 1 3 k_ (xW v1))])) (show(([]:Ax).length+([(jE v1)]:Ax).length)=(rZ v1).length from(E0 _ _)))) (tC h λc27_ h=>tU q CS P9 (c1 c27_) (Qa (⟨[Uj,n8,n7,(7,(.vsl 36007 (rZ v1).length)),(8,(.vsub 25 [v1].length 0 (xS v1)))],[(Pt 56 (nY v18)),(OW (uu v1)),(mz (yV l10)),(25,.arr 1 3 ([v1].length) (vn v1)),(36007,.arr 1 3 ((rZ v1).length) (xW v1))],[]⟩:St) (gLe (Le.trans (Le.trans (dI (t:=8) (r:=25) (k:=(xS v1)) rfl rfl c27_.2 (by kernel_rfl) (.row (by kernel_rfl) (.arr (λ_=>by kernel_rfl) (.arr (λ_=>by kernel_rfl) (.arr (λ_=>by kernel_rfl) (.arr (λ_=>by kernel_rfl) .nil))))) (by rw[hΓ];rfl)) (Gt (st':=⟨(Q55 v1),[(Pt 56 (nY v18)),(OW (uu v1)),(mz (yV l10)),(25,.arr 1 3 (xS v1) (vn v1)),(36007,.arr 1 3 ((rZ v1).length) (xW v1))],[]⟩) (by kernel_rfl))) (Le.trans (Jc (st':=⟨(Q55 v1),[(Pt 56 (nY v18)),(OW (uu v1)),(mz (yV l10)),(25,.arr 1 3 (xS v1) (λi=>Aq ((Q52 v1).getD i 0))),(36007,.arr 1 3 ((rZ v1).length) (xW v1))],[]⟩) (TmpsLe.refl _) (.same (.same (.same (.arr (kM (e:=Aq) (d:=(0:Int))) (.same .nil)))))) (Gt (Bi (λk_:Nat=>(⟨[Uj,n8,n7,(7,(.vsl 36007 (rZ v1).length)),(8,(.vsl 25 k_))],[(Pt 56 (nY v18)),(OW (uu v1)),(mz (yV l10)),(25,.arr 1 3 k_ (λi=>Aq ((Q52 v1).getD i 0))),(36007,.arr 1 3 ((rZ v1).length) (xW v1))],[]⟩:St)) (show(xS v1)=(Q52 v1).length from eV c27_.2))))) (Af q [2,5,6,7,8,78] P9 (gC h (λh=>tS h (fy (Bg CS P9 q))) λh=>tB h λx28 y28 h=>tC h λc29_ h=>tT q [7] [36007] [⟨[(36007,34000)],[],(.tuple []),[(Z4 34000 x28)],[],[]⟩] (c1 (Oo y28)) (gLe (Sc (λ(k_:Nat) u=>(Cm u [(Vo 36007 k_)] [])) (show(rZ v1).length=x28.length from c29_)) (Af q [4] [36007] (Qa (⟨[(4,(.vsl 36007 x28.length))],[(Z4 36007 x28)],[]⟩:St) (tS h (fB (Lo (H7 [(36007,20000)] (Le.trans (le_freeze (nm:=36007) (sz:=1) (n:=x28.length) (e:=3) (f:=(λi=>Aq (x28.getD i 0))) (g:=(λi=>Aq (x28.getD i 0))) rfl ⟨rfl,trivial⟩ (λ_ _=>rfl) (by rw[hΓ];rfl)) (Gt (st':=⟨[(4,(Wa x28 36007))],[(Yu 36007 x28.length)],[]⟩) (by kernel_rfl))))))))))))))))) | .inr ⟨l11,l12,l13⟩,h=>vB (λst' hl30=>tS h (fy (Le.trans hl30 H8))))))))))))))))) (λ⟨l1,l2,l3,l4⟩ y h=>tC h λc31_ h=>tU q EZ P9 (c2 c31_ (Eq.refl l3.length)) (tL q h EZ P9 (λu l32=>(Cm u [] [(yq l32)])) (λu x_=>match x_ with|(.inl l33)=>aG Γ (.exit 0) (Cm u [] [(mz (ye l33))])|(.inr (l34,l35,l36))=>aG Γ (.goto 0) (Nb CS P9 u [(8,(.vsl 25 l36.length))] [(5,.arr 1 230 64 (λi=>eB (l34.getD i false))),(yq l35),(Z4 25 l36)])) (λl32 y h=>tC h λc37_ h=>tC h λc38_ h=>tU q [2,5,6,7,8,9,41] P9 (c3 c37_ (Eq.refl 64) c38_) (gC h (λh=>tC h λc39_ h=>tC h λc40_ h=>tC h λc41_ h=>tU q bi P9 (c4 c39_ c40_ (Eq.refl 64) c41_) (tC h λc42_ h=>tC h λc43_ h=>tU q bi P9 (c4 c42_ (Eq.refl 64) c43_ (Eq.refl 64)) (gLe (Sq 6 (show ∀ k_,k_<64->AVleL ((λi_=>AV.eraseAll e8 ((Fa (λi=>Aq (l32.getD i 0)) (mu l3).toNat 0 [(.int .i64 (w64 ((l32.getD (mu l3).toNat (0:Int))+1)))]) i_)) k_) ((λi=>Aq ((P8 64 (0:Int) l32 (mu l3).toNat (w64 ((l32.getD (mu l3).toNat (0:Int))+1))).getD i 0)) k_) from(Bh rfl (λk_ hk_=>(Bi (AV.eraseAll e8) ((Wr (λ_ _=>rfl) (Qo c43_) rfl) k_ hk_)).trans rfl)))) (tC h λc44_ h=>tU q rL P9 (c2 c44_ (Eq.refl 64)) (gC h (λh=>tC h λc45_ h=>tU q [2,5,6,7,8,10] P9 (c2 c45_ (Eq.refl 64)) (gLe (Sq 5 (show ∀ k_,k_<64->AVleL ((λi_=>AV.eraseAll e8 ((Fa (xU l1) (rY v18 l3 l32).toNat 0 [(.bool true)]) i_)) k_) ((λi=>eB ((P8 64 false l1 (rY v18 l3 l32).toNat true).getD i false)) k_) from(Bh rfl (λk_ hk_=>(Bi (AV.eraseAll e8) ((Wr (λ_ _=>rfl) (Qo c45_) rfl) k_ hk_)).trans rfl)))) (tC h λc46_ h=>gR q CS P9 [(65,(uy (rY v18 l3 l32)))] [] (c3 (Bq 1 Aq (0:Int) ([(rY v18 l3 l32)]:Ax)) (Eq.refl l3.length) c46_) (tS h (gO (Be (Le.trans (Le.trans (Sq 25 (show ∀ k_,k_<(l3.length+([(rY v18 l3 l32)]:Ax).length)->AVleL ((λi_=>AV.eraseAll e8 ((O1 l3.length (λi=>Aq (l3.getD i 0)) (λi=>Aq (([(rY v18 l3 l32)]:Ax).getD i 0))) i_)) k_) ((λi=>Aq ((l3++([(rY v18 l3 l32)]:Ax)).getD i 0)) k_) from(Bh (E0 _ _) (λk_ hk_=>(Bi (AV.eraseAll e8) ((GR (λ_ _=>rfl) (λ_ _=>rfl)) k_ hk_)).trans rfl)))) (Sc (λ(k_:Nat) u=>(Cm u [(8,(.vsl 25 k_))] [(25,.arr 1 3 k_ (λi=>Aq ((l3++([(rY v18 l3 l32)]:Ax)).getD i 0)))])) (show(l3.length+([(rY v18 l3 l32)]:Ax).length)=(l3++([(rY v18 l3 l32)]:Ax)).length from(E0 _ _)))) H8))))))) λh=>tS h (gN (Bg EZ P9 q))))))) λh=>tS h (gO (Be (Bg EZ P9 q))))) λx47 h=>(match x47,h with | .inl l33,h=>gA (tC h λc49_ h=>gR q CS P9 [(69,(uy (mu l3)))] [] (c3 (Bq 1 Aq (0:Int) ([(mu l3)]:Ax)) (Eq.refl l4.length) c49_) (gLe (Le.trans (Sq 36007 (show ∀ k_,k_<(l4.length+([(mu l3)]:Ax).length)->AVleL ((λi_=>AV.eraseAll e8 ((O1 l4.length (λi=>Aq (l4.getD i 0)) (λi=>Aq (([(mu l3)]:Ax).getD i 0))) i_)) k_) ((xV l4 l3) k_) from(Bh (E0 _ _) (λk_ hk_=>(Bi (AV.eraseAll e8) ((GR (λ_ _=>rfl) (λ_ _=>rfl)) k_ hk_)).trans rfl)))) (Sc (λ(k_:Nat) u=>(Cm u [(Vo 36007 k_)] [(36007,.arr 1 3 k_ (xV l4 l3))])) (show(l4.length+([(mu l3)]:Ax).length)=(nq l4 l3).length from(E0 _ _)))) (tC h λc50_ h=>tU q CS P9 (c1 c50_) (Qa (⟨[Uj,n8,n7,(7,(.vsl 36007 (nq l4 l3).length)),(8,(.vsub 25 l3.length 0 (vl l3)))],[(Pt 56 (nY v18)),(OW (xU l1)),(mz (ye l33)),(Z4 25 l3),(36007,.arr 1 3 ((nq l4 l3).length) (xV l4 l3))],[]⟩:St) (gLe (Le.trans (Le.trans (dI (t:=8) (r:=25) (k:=(vl l3)) rfl rfl c50_.2 (by kernel_rfl) (.row (by kernel_rfl) (.arr (λ_=>by kernel_rfl) (.arr (λ_=>by kernel_rfl) (.arr (λ_=>by kernel_rfl) (.arr (λ_=>by kernel_rfl) .nil))))) (by rw[hΓ];rfl)) (Gt (st':=⟨[Uj,n8,n7,(7,(.vsl 36007 (nq l4 l3).length)),(8,(.vsl 25 (vl l3)))],[(Pt 56 (nY v18)),(OW (xU l1)),(mz (ye l33)),(25,.arr 1 3 (vl l3) (λi=>Aq (l3.getD i 0))),(36007,.arr 1 3 ((nq l4 l3).length) (xV l4 l3))],[]⟩) (by kernel_rfl))) (Le.trans (Jc (st':=⟨[Uj,n8,n7,(7,(.vsl 36007 (nq l4 l3).length)),(8,(.vsl 25 (vl l3)))],[(Pt 56 (nY v18)),(OW (xU l1)),(mz (ye l33)),(25,.arr 1 3 (vl l3) (λi=>Aq ((l3.take (w64 ((l3.length:Int)-1)).toNat).getD i 0))),(36007,.arr 1 3 ((nq l4 l3).length) (xV l4 l3))],[]⟩) (TmpsLe.refl _) (.same (.same (.same (.arr (kM (e:=Aq) (d:=(0:Int))) (.same .nil)))))) (Gt (Bi (λk_:Nat=>(⟨[Uj,n8,n7,(7,(.vsl 36007 (nq l4 l3).length)),(8,(.vsl 25 k_))],[(Pt 56 (nY v18)),(OW (xU l1)),(mz (ye l33)),(25,.arr 1 3 k_ (λi=>Aq ((l3.take (w64 ((l3.length:Int)-1)).toNat).getD i 0))),(36007,.arr 1 3 ((nq l4 l3).length) (xV l4 l3))],[]⟩:St)) (show(vl l3)=(l3.take (w64 ((l3.length:Int)-1)).toNat).length from eV c50_.2))))) (Af q [2,5,6,7,8,78] P9 (gC h (λh=>tS h (fy (Bg CS P9 q))) λh=>tB h λx51 y51 h=>tC h λc52_ h=>tT q [7] [36007] [⟨[(36007,34000)],[],(.tuple []),[(Z4 34000 x51)],[],[]⟩] (c1 (Oo y51)) (gLe (Sc (λ(k_:Nat) u=>(Cm u [(Vo 36007 k_)] [])) (show(nq l4 l3).length=x51.length from c52_)) (Af q [4] [36007] (Qa (⟨[(4,(.vsl 36007 x51.length))],[(Z4 36007 x51)],[]⟩:St) (tS h (fB (Lo (H7 [(36007,20000)] (Le.trans (le_freeze (nm:=36007) (sz:=1) (n:=x51.length) (e:=3) (f:=(λi=>Aq (x51.getD i 0))) (g:=(λi=>Aq (x51.getD i 0))) rfl ⟨rfl,trivial⟩ (λ_ _=>rfl) (by rw[hΓ];rfl)) (Gt (st':=⟨[(4,(Wa x51 36007))],[(Yu 36007 x51.length)],[]⟩) (by kernel_rfl))))))))))))))))) | .inr ⟨l34,l35,l36⟩,h=>vB (λst' hl53=>tS h (fy (Le.trans hl53 H8)))))) (O3 (λst' hk=>tS h (gK hk))))
def HN(aD:Int)(aZ:Int):Option J8:=
 some (Iy (Iy (Iy (Wx .u64 aD 32*Wx .u64 aZ 32)+Wx .u64 (Iy (Iy (Wx .u64 aD 32*Uo .and .u64 aZ 4294967295)+Wx .u64 (Iy (Uo .and .u64 aD 4294967295*Uo .and .u64 aZ 4294967295)) 32)) 32)+Wx .u64 (Iy (Uo .and .u64 (Iy (Iy (Wx .u64 aD 32*Uo .and .u64 aZ 4294967295)+Wx .u64 (Iy (Uo .and .u64 aD 4294967295*Uo .and .u64 aZ 4294967295)) 32)) 4294967295+Iy (Uo .and .u64 aD 4294967295*Wx .u64 aZ 32))) 32),Iy (aD*aZ))
variable{v19:J8}
theorem VJ(h:HN v1 v11=some v19):sP 247 (wT v1 v11) [] (.tuple (wT v19.1 v19.2)) []:=
 sG Tryz.func247 λΓ q=>tW q Gm [] [0,1,6] [] (tU q TV [] (c1 (show(0<=(32:Int)) from(by decide))) (Af q TL [] (tU q [0,1,6,7,8,9] [] (c1 (show(0<=(32:Int)) from(by decide))) (Af q [0,1,6,7,8,9,10] [] (tU q [0,1,6,7,9,11] [] (c1 (show(0<=(32:Int)) from(by decide))) (Af q [0,1,6,7,9,11,12] [] (tU q [0,1,6,7,9,12,13] [] (c1 (show(0<=(32:Int)) from(by decide))) (Af q [0,1,7,9,12,13] [] (tU q [0,1,4] [] (c1 (show(0<=(32:Int)) from(by decide))) (Af q [4,5] [] (tS h (Ca []))))))))))))
def Rq(aD:Int)(aZ:Int):Option J8:=
 (HN aD aZ).bind λx1=>some (x1.1,x1.2)
theorem LY(h:Rq v1 v11=some v19):sP 209 (wT v1 v11) [] (.tuple (wT v19.1 v19.2)) []:=
 sG Tryz.func209 λΓ q=>Af q Gm [] (pN false (tB h λx1 y1 h=>tT q [8,9] [] [⟨[],[],(.tuple (wT x1.1 x1.2)),[],[],[]⟩] (c1 (VJ y1)) (Af q [4,5] [] (tS h (Ca [])))))
abbrev eg:=(Int×Ax)
abbrev qx:=(LR (Int×Ax) Ax)
def Dk :eg->Option qx:=
 λ(i7,l8)=>bif decide (i7<l8.length) then Az (0<=i7/\0+i7.toNat<=l8.length) (Az (0<=i7/\0+i7.toNat<=l8.length) (some (.next (w64 (i7+Nat.min (0+i7.toNat-0) (l8.length-(0+i7.toNat))),OB l8 (0+i7.toNat) (Nat.min (0+i7.toNat-0) (l8.length-(0+i7.toNat))) λi=>l8.getD (0+i) 0)))) else some (.done l8)
def nr(x3:J8):=(List.replicate (w64 x3.2).toNat (0:Int))
def Q58(x3:J8)(aD:Ax):=(OB (nr x3) 0 (Nat.min aD.length ((nr x3).length-0)) (λi=>aD.getD i 0))
def Q57(l8:Ax)(i7:Int):=(OB l8 (0+i7.toNat) (Nat.min ((0+i7.toNat)-0) (l8.length-(0+i7.toNat))) (λi=>l8.getD (0+i) 0))
def Iv(aD:Ax)(aa8:Int):Option Ax:=
 Option.bind  (bif decide (aa8<0) then none else some ()) λx1=>match x1 with|_=>(Rq (Iy aD.length) (Iy aa8)).bind λx3=>Option.bind  (bif bif decide (0<x3.1) then true else decide (9223372036854775807<x3.2) then none else some ()) λx4=>match x4 with|_=>Az (0<=w64 x3.2/\w64 x3.2<=w64 x3.2/\w64 x3.2<=room) ((Ac   Dk (Nat.min aD.length ((List.replicate (w64 x3.2).toNat (0:Int)).length-0),OB (List.replicate (w64 x3.2).toNat 0) 0 (Nat.min aD.length ((List.replicate (w64 x3.2).toNat (0:Int)).length-0)) λi=>aD.getD i 0)).bind λx12=>some x12)
theorem V2(h:Iv v2 v1=some v17):sP 197 [(Z6 v2),(Z5 v1)] [] (.vsl 20000 v17.length) [(Z4 20000 v17)]:=
 sG Tryz.func197 λΓ q=>gR q Gm [] [(4,fU)] [] (c1 (Bz 1 Aq (0:Int))) (tB h λx1 y1 h=>gJ y1 (λ_=>aG Γ .normal (⟨[(0,(Z6 v2)),(1,(Z5 v1))],[],[]⟩:St)) (λy h=>Af q Yr [] (gC h (λh=>nomatch h) λh=>tS h (gK (Be (Bg Gm [] q))))) (gA (tB h λx3 y3 h=>tT q [0,5,6] [] [⟨[],[],(.tuple (wT x3.1 x3.2)),[],[],[]⟩] (c1 (LY y3)) (tB h λx4 y4 h=>gJ y4 (λ_=>aG Γ .normal (⟨[(0,(Z6 v2)),(6,(.int .u64 x3.2))],[],[]⟩:St)) (λy h=>tU q [0,6,26] [] (c2 (gI ((decide ((0:Int)<x3.1))==false)) (L5 (decide ((0:Int)<x3.1)))) (gC h (λh=>nomatch h) λh=>tS h (gK (Be (Bg [0,6] [] q))))) (gA (tV q [0,7] [30] h λh=>by exact gLe (Le.trans (Sq 30 (show ∀ k_,k_<((w64 x3.2).toNat)->AVleL ((λi_=>AV.eraseAll (λn_=>Bv n_ [30]) ((λ_=>[L9]) i_)) k_) ((λi=>Aq ((nr x3).getD i 0)) k_) from(λk hk=>M9 (e:=Aq) (d:=(0:Int)) (.cons (AVle.refl _) .nil) _ k (Na hk)))) (Sc (λ(k_:Nat) u=>(Cm u [(Vo 30 k_)] [(30,.arr 1 3 k_ (λi=>Aq ((nr x3).getD i 0)))])) (show(w64 x3.2).toNat=(nr x3).length from(Oa ..).symm))) (tU q [7,8] [30] (c1 (Eq.refl ((nr x3).length))) (gLe (Le.trans (Sq 30 (show ∀ k_,k_<((nr x3).length)->AVleL ((λi_=>AV.eraseAll (λn_=>Bv n_ [30]) ((WL (λi=>Aq ((nr x3).getD i 0)) 0 (Nat.min v2.length ((nr x3).length-0)) (λi=>Aq (v2.getD i 0))) i_)) k_) ((λi=>Aq ((Q58 x3 v2).getD i 0)) k_) from(Bh (Ei ..) (λk_ hk_=>(Bi (AV.eraseAll (λn_=>Bv n_ [30])) ((OA (e:=Aq) (d:=(0:Int)) (l:=(nr x3)) (s:=(λi=>v2.getD i 0)) (λ_ _=>rfl) (λ_ _=>rfl)) k_ hk_)).trans rfl)))) (Sc (λ(k_:Nat) u=>(Cm u [(Vo 30 k_)] [(30,.arr 1 3 k_ (λi=>Aq ((Q58 x3 v2).getD i 0)))])) (show(nr x3).length=(Q58 x3 v2).length from(Ei ..)))) (tL q h [7,8] [30] (λu (i7,l8)=>(Cm u [(Vo 30 l8.length),(8,(Z5 i7))] [(Z4 30 l8)])) (λu l9=>aG Γ (.exit 0) (⟨[(Vo 30 l9.length)],[(Z4 30 l9)],[]⟩:St)) (λ⟨i7,l8⟩ y h=>Af q [7,8,37] [30] (gC h (λh=>tC h λc10_ h=>tC h λc11_ h=>tU q [7,8] [30] (c4 c10_ c11_ (Eq.refl l8.length) (Eq.refl l8.length)) (tS h (gN (Le.trans (Le.trans (Sq 30 (show ∀ k_,k_<l8.length->AVleL ((λi_=>AV.eraseAll (λn_=>Bv n_ [30]) ((WL (λi=>Aq (l8.getD i 0)) (0+i7.toNat) (Nat.min ((0+i7.toNat)-0) (l8.length-(0+i7.toNat))) (λi=>(λi=>Aq (l8.getD i 0)) (0+i))) i_)) k_) ((λi=>Aq ((Q57 l8 i7).getD i 0)) k_) from(Bh (Ei ..) (λk_ hk_=>(Bi (AV.eraseAll (λn_=>Bv n_ [30])) ((OA (e:=Aq) (d:=(0:Int)) (l:=l8) (s:=(λi=>l8.getD (0+i) 0)) (λ_ _=>rfl) (λ_ _=>rfl)) k_ hk_)).trans rfl)))) (Sc (λ(k_:Nat) u=>(Cm u [(Vo 30 k_)] [(30,.arr 1 3 k_ (λi=>Aq ((Q57 l8 i7).getD i 0)))])) (show l8.length=(Q57 l8 i7).length from(Ei ..)))) H8)))) λh=>tS h (gO (Be (Bg [7] [30] q))))) λx12 h=>gA (Af q [4] [30] (tS h (Ca [(30,20000)]))))))))))))
abbrev bb:=(Int×List Bool)
abbrev bc:=(LR (Int×List Bool) (List Bool))
def Lc(a9:Ax):bb->Option bc:=
 λ(i2,l3)=>bif i2 !=-1 then Az (A1 i2 l3.length) (Az (A1 i2 a9.length) (some (.next (a9.getD i2.toNat 0,l3.set i2.toNat true)))) else some (.done l3)
def Jd(a9:Ax)(l4:List Bool):Int->Option (LR Int Int):=
 λi9=>Az (A1 i9 l4.length) (bif !l4.getD i9.toNat false then Az (A1 i9 a9.length) (some (.next (a9.getD i9.toNat 0))) else some (.done i9))
def Rs(a9:Ax)(a8:Int)(aE:Int):Option Int:=
 Az (0<=(a9.length:Int)/\(a9.length:Int)<=a9.length/\(a9.length:Int)<=room) ((Ac   (Lc a9) (a8,List.replicate (a9.length:Int).toNat false)).bind λx7=>(Ac   (Jd a9 x7) aE).bind λx13=>some x13)
variable{v20:Int}
theorem LZ(h:Rs v2 v1 v11=some v20):sP 240 [(Z6 v2),(Z5 v1),(Z5 v11)] [] (.int .i64 v20) []:=
 sG Tryz.func240 λΓ q=>Af q UC [] (tV q [0,1,2,7] [11] h λh=>by exact gLe (Le.trans (Sq 11 (show ∀ k_,k_<((v2.length:Int).toNat)->AVleL ((λi_=>AV.eraseAll (λn_=>Bv n_ [11]) ((λ_=>[(.bool false)]) i_)) k_) ((λi=>eB ((List.replicate (v2.length:Int).toNat false).getD i false)) k_) from(λk hk=>M9 (e:=eB) (d:=false) (.cons (AVle.refl _) .nil) _ k (Na hk)))) (Sc (λ(k_:Nat) u=>(Cm u [(Vo 11 k_)] [(11,.arr 1 4 k_ (λi=>eB ((List.replicate (v2.length:Int).toNat false).getD i false)))])) (show(v2.length:Int).toNat=(List.replicate (v2.length:Int).toNat false).length from(Oa ..).symm))) (Af q bv [11] (tL q h bv [11] (λu (i2,l3)=>(Cm u [(Vo 11 l3.length),(8,(Z5 i2))] [(Z9 11 l3)])) (λu l4=>aG Γ (.exit 0) (Nb UD [11] u [(Vo 11 l4.length)] [(Z9 11 l4)])) (λ⟨i2,l3⟩ y h=>Af q [0,2,7,8,14] [11] (gC h (λh=>tC h λc5_ h=>tU q bv [11] (c2 c5_ (Eq.refl l3.length)) (gLe (Le.trans (Sq 11 (show ∀ k_,k_<l3.length->AVleL ((λi_=>AV.eraseAll (λn_=>Bv n_ [11]) ((Fa (λi=>eB (l3.getD i false)) i2.toNat 0 [(.bool true)]) i_)) k_) ((λi=>eB ((l3.set i2.toNat true).getD i false)) k_) from(Bh (Db ..).symm (λk_ hk_=>(Bi (AV.eraseAll (λn_=>Bv n_ [11])) ((Fs (λ_ _=>rfl) (Hx c5_) rfl) k_ hk_)).trans rfl)))) (Sc (λ(k_:Nat) u=>(Cm u [(Vo 11 k_)] [(11,.arr 1 4 k_ (λi=>eB ((l3.set i2.toNat true).getD i false)))])) (show l3.length=(l3.set i2.toNat true).length from(Db ..).symm))) (tV q bv [11] h λh=>tN h))) λh=>tS h (gO (Be (Bg UD [11] q))))) λx7 h=>gA (tL q h UD [11] (λu i9=>(Cm u [(2,(Z5 i9))] [])) (λu i10=>aG Γ (.exit 2) (⟨[(2,(Z5 i10))],[],[]⟩:St)) (λi9 y h=>tC h λc11_ h=>tU q [0,2,7,26] [11] (c2 c11_ (Eq.refl x7.length)) (gC h (λh=>tV q UD [11] h λh=>tN h) λh=>tS h (gO (Be (Bg [2] [] q))))) λx13 h=>gA (Af q [6] [] (tS h (Ca [])))))))
set_option maxRecDepth 100000
set_option maxHeartbeats 2000000
def F6(a9:Ax)(aA:Ax):J8->Option nD:=
 λ(i1,i2)=>bif decide (i2<aA.length) then Option.bind  (Az (A1 i2 aA.length) (Az (A1 (aA.getD i2.toNat 0) a9.length) (bif a9.getD (aA.getD i2.toNat 0).toNat 0==-2 then some i1 else bif i1==-2 then some (aA.getD i2.toNat 0) else(Rs a9 i1 (aA.getD i2.toNat 0)).bind λx7=>some x7))) λx8=>some (.next (x8,w64 (i2+1))) else some (.done i1)
def M0(a9:Ax)(aA:Ax):Option Int:=
 (Ac   (F6 a9 aA) (-2,0)).bind λx10=>some x10
theorem BG(h:M0 v2 v17=some v1):sP 198 [(Z6 v2),(Z6 v17)] [] (.int .i64 v1) []:=
 sG Tryz.func198 λΓ q=>tW q Gm [] Nh [] (Af q ZC [] (tL q h ZC [] (λu (i1,i2)=>(Cm u [(5,(Z5 i1)),(10,(Z5 i2))] [])) (λu i3=>aG Γ (.exit 0) (⟨[(5,(Z5 i3))],[],[]⟩:St)) (λ⟨i1,i2⟩ y h=>Af q [0,5,8,9,10,11] [] (gC h (λh=>tB h λx8 y8 h=>gJ y8 (λi4=>aG Γ .normal (⟨[(0,(Z6 v2)),(5,(Z5 i4)),(8,(Z6 v17)),(9,(.int .i64 (v17.length:Int))),(10,(Z5 i2))],[],[]⟩:St)) (λy h=>tV q [0,5,7,8,9,10] [] h λh=>tV q [0,5,7,8,9,10,18] [] h λh=>gC h (λh=>tS h (gK (Be (Bg ZC [] q)))) λh=>Af q [0,5,7,8,9,10,24] [] (gC h (λh=>Af q ZC [] (tS h (gK (Be H8)))) λh=>tB h λx7 y7 h=>tT q ZC [] [(IX x7)] (c1 (LZ y7)) (tS h (gK (Be H8))))) (gA (Af q ZC [] (tN h)))) λh=>tS h (gO (Be (Bg [5] [] q))))) λx10 h=>gA (Af q [4] [] (tS h (Ca [])))))
abbrev zt:=(LR (Bool×Int×Ax) (Bool×Ax))
def Fj(a4:TGraph)(x3:Ax):(Bool×Int×Ax)->Option zt:=
 λ(b7,i8,l9)=>bif decide (i8<(x3.drop (1:Int).toNat).length) then Option.bind  (Az (A1 i8 (x3.drop (1:Int).toNat).length) (Az (A1 ((x3.drop (1:Int).toNat).getD i8.toNat 0) a4.Pred.length) ((M0 l9 (a4.Pred.getD ((x3.drop (1:Int).toNat).getD i8.toNat 0).toNat [])).bind λx16=>Az (A1 ((x3.drop (1:Int).toNat).getD i8.toNat 0) l9.length) (bif x16 !=l9.getD ((x3.drop (1:Int).toNat).getD i8.toNat 0).toNat 0 then Az (A1 ((x3.drop (1:Int).toNat).getD i8.toNat 0) l9.length) (some (true,l9.set ((x3.drop (1:Int).toNat).getD i8.toNat 0).toNat x16)) else some (b7,l9))))) λx19=>match x19 with|(b12,l13)=>some (.next (b12,w64 (i8+1),l13)) else some (.done (b7,l9))
def Vu(a4:TGraph)(l1:Ax):(Bool×Int×Ax)->Option zt:=
 λ(b24,i25,l26)=>bif decide (i25<(l1.drop (1:Int).toNat).length) then Option.bind  (Az (A1 i25 (l1.drop (1:Int).toNat).length) (Az (A1 ((l1.drop (1:Int).toNat).getD i25.toNat 0) a4.Pred.length) ((M0 l26 (a4.Pred.getD ((l1.drop (1:Int).toNat).getD i25.toNat 0).toNat [])).bind λx33=>Az (A1 ((l1.drop (1:Int).toNat).getD i25.toNat 0) l26.length) (bif x33 !=l26.getD ((l1.drop (1:Int).toNat).getD i25.toNat 0).toNat 0 then Az (A1 ((l1.drop (1:Int).toNat).getD i25.toNat 0) l26.length) (some (true,l26.set ((l1.drop (1:Int).toNat).getD i25.toNat 0).toNat x33)) else some (b24,l26))))) λx36=>match x36 with|(b29,l30)=>some (.next (b29,w64 (i25+1),l30)) else some (.done (b24,l26))
abbrev ui:=(Ax×Ax)
def Hz(a4:TGraph):ui->Option (LR (Ax×Ax) Ax):=
 λs_=>match s_ with|(l1,l2)=>Az (0<=(1:Int)/\(1:Int)<=l1.length) ((Ac   (Vu a4 l1) (false,0,l2)).bind λx38=>match x38 with|(b27,l28)=>bif b27 then some (.next (l1,l28)) else some (.done l28))
def fF(Γ:H6)(a4:TGraph)(aa1:Int)(r:Ax):Exit->St->Prop:=fK Tryz.prog Γ Tryz.f152.results.toList [] (Wa r 20000) [(Yu 20000 r.length)]
def xX:=(λn_=>Bv n_ [2,13,21])
def Q61:List MQ:=[(4,fU)]
def Q60(x3:Ax)(i8:Int):=((x3.drop (1:Int).toNat).getD i8.toNat 0)
def Q59(l1:Ax)(i25:Int):=((l1.drop (1:Int).toNat).getD i25.toNat 0)
def Q62(a4:TGraph):List AV:=[(NU a4.Succ),(NU a4.Pred)]
def Q64:=(Z33:St)
def Ty(a4:TGraph)(aa1:Int):Option Ax:=
 ((Rz (S:=ui) (X:=Ax) ((Ld a4 aa1).bind λx3=>(bif ((x3.length:Int)==0) then(some (.done ([]:Ax))) else((Iv ([(-2:Int)]:Ax) (a4.Succ.length:Int)).bind λx4=>(Az (A1 aa1 x4.length) (Az (0<=(1:Int)/\(1:Int)<=(x3.length:Int)) ((Ac (Fj a4 x3) (false,(0:Int),(x4.set aa1.toNat (-1:Int)))).bind (λ(b10,l11)=>(bif b10 then(some (.next (x3,l11))) else(some (.done l11)))))))))) (Hz a4)).bind (λx40=>(some x40)))
theorem dl(h:Ty v18 v1=some v2):sP 152 (rf v18 v1) [] (Wa v2 20000) [(Yu 20000 v2.length)]:=
 sG Tryz.func152 λΓ q=>have hΓ:=q.own;gR q Ea [2] Q61 [] (c1 (Bz 1 Aq (0:Int))) (tB h λx40 y40 h=>gS y40 (λ(s_:ui)=>match s_ with|(l1,l2)=>0) (λ(s_:ui)=>match s_ with|(l1,l2)=>(⟨[Uj,(5,(Wa l1 13)),(6,(.vsl 21 l2.length))],[(Pt 56 (Q62 v18)),(Yu 13 l1.length),(Z4 21 l2)],[]⟩:St)) (λr_=>aR (fF Γ v18 v1 r_)) (λy h=>tB h λx3 y3 h=>tT q V6 [2,13] [(xZ 13 x3 x3.length)] (c1 (BH y3)) (Af q [1,2,5,16] [2,13] (gC h (λh=>gR q [4] [] Q61 [] (c1 (Bz 1 Aq (0:Int))) (Qa (⟨Q61,[],[]⟩:St) (tS h (fB (Lo (H7 bo (show Le Γ _ Q64 from Le.trans (Bg (st':=⟨Q61,[],[]⟩) [4] [] q) (Le.trans (Ro (t:=4) (nm:=6004) (sz':=1) (λi=>Aq (([]:Ax).getD i 0)) 3 rfl rfl (.inl ⟨rfl,rfl⟩) (λh_=>absurd h_ (by decide))) (Bg (st':=Q64) [4] [6004] q))))))))) λh=>tB h λx4 y4 h=>gR q [1,2,5,6] Ka [(17,(AV.list 1 Aq 0 ([(-2:Int)]:Ax) .exact))] [⟨[],[(20000,21)],(.vsl 20000 x4.length),[(Z4 20000 x4)],[],[]⟩] (c2 (Bq 1 Aq (0:Int) ([(-2:Int)]:Ax)) (V2 y4)) (tC h λc5_ h=>tU q Xe Ka (c2 c5_ (Eq.refl x4.length)) (gLe (Le.trans (Sq 21 (show ∀ k_,k_<x4.length->AVleL ((λi_=>AV.eraseAll xX ((Fa (λi=>Aq (x4.getD i 0)) v1.toNat 0 [(.int .i64 (-1:Int))]) i_)) k_) ((λi=>Aq ((x4.set v1.toNat (-1:Int)).getD i 0)) k_) from(Bh (Db ..).symm (λk_ hk_=>(Bi (AV.eraseAll xX) ((Fs (λ_ _=>rfl) (Hx c5_) rfl) k_ hk_)).trans rfl)))) (Sc (λ(k_:Nat) u=>(Cm u [(6,(.vsl 21 k_))] [(21,.arr 1 3 k_ (λi=>Aq ((x4.set v1.toNat (-1:Int)).getD i 0)))])) (show x4.length=(x4.set v1.toNat (-1:Int)).length from(Db ..).symm))) (Af q KZ Ka (tC h λc6_ h=>gR q EY Ka [(26,(AV.list 1 Aq 0 (x3.drop (1:Int).toNat) .none))] [] (c2 c6_ (show(AVle (.slice 1 (x3.length-(1:Int).toNat) (λi=>Aq (x3.getD ((1:Int).toNat+i) 0)) .none) (AV.list 1 Aq 0 (x3.drop (1:Int).toNat) .none)) from jL)) (tL q h EY Ka (λu (b7,i8,l9)=>(Cm u [(6,(.vsl 21 l9.length)),(7,(.bool b7)),(28,(Z5 i8))] [(Z4 21 l9)])) (λu (b10,l11)=>aG Γ (.exit 0) (Nb KZ Ka u [(6,(.vsl 21 l11.length)),(7,(.bool b10))] [(Z4 21 l11)])) (λ⟨b7,i8,l9⟩ y h=>Af q rI Ka (gC h (λh=>tB h λx19 y19 h=>gJ y19 (λ(b12,l13)=>aG Γ .normal (⟨[Uj,(5,(Wa x3 13)),(6,(.vsl 21 l13.length)),(7,(.bool b12)),(26,(AV.list 1 Aq 0 (x3.drop (1:Int).toNat) .none)),(27,(.int .i64 ((x3.drop (1:Int).toNat).length:Int))),(28,(Z5 i8))],[(Pt 56 (Q62 v18)),(Yu 13 x3.length),(Z4 21 l13)],[]⟩:St)) (λy h=>tV q rJ Ka h λh=>tC h λc15_ h=>tB h λx16 y16 h=>tT q rF Ka [⟨[],[],(Z5 x16),[],[21],[]⟩] (c4 c15_ (BG y16) (show(EE []) from trivial) (Eq.refl l9.length)) (tC h λc17_ h=>tU q rC Ka (c2 c17_ (Eq.refl l9.length)) (gC h (λh=>tC h λc18_ h=>tU q EY Ka (c2 c18_ (Eq.refl l9.length)) (tS h (gK (Be (Le.trans (Le.trans (Sq 21 (show ∀ k_,k_<l9.length->AVleL ((λi_=>AV.eraseAll xX ((Fa (λi=>Aq (l9.getD i 0)) (Q60 x3 i8).toNat 0 [(Z5 x16)]) i_)) k_) ((λi=>Aq ((l9.set (Q60 x3 i8).toNat x16).getD i 0)) k_) from(Bh (Db ..).symm (λk_ hk_=>(Bi (AV.eraseAll xX) ((Fs (λ_ _=>rfl) (Hx c18_) rfl) k_ hk_)).trans rfl)))) (Sc (λ(k_:Nat) u=>(Cm u [(6,(.vsl 21 k_))] [(21,.arr 1 3 k_ (λi=>Aq ((l9.set (Q60 x3 i8).toNat x16).getD i 0)))])) (show l9.length=(l9.set (Q60 x3 i8).toNat x16).length from(Db ..).symm))) H8))))) λh=>tS h (gK (Be (Bg EY Ka q)))))) (match x19,h with|⟨b12,l13⟩,h=>gA (Af q EY Ka (tN h)))) λh=>tS h (gO (Be (Bg KZ Ka q))))) λx21 h=>(match x21,h with|⟨b10,l11⟩,h=>gA (Af q [2,5,6,50] Ka (gC h (λh=>tS h (fy (Bg Xe Ka q))) λh=>Af q [4] [21] (Qa (⟨[(4,(.vsl 21 l11.length))],[(Z4 21 l11)],[]⟩:St) (tS h (fB (Lo (H7 [(21,20000)] (Le.trans (le_freeze (nm:=21) (sz:=1) (n:=l11.length) (e:=3) (f:=(λi=>Aq (l11.getD i 0))) (g:=(λi=>Aq (l11.getD i 0))) rfl ⟨rfl,trivial⟩ (λ_ _=>rfl) (by rw[hΓ];rfl)) (Gt (st':=⟨[(4,(Wa l11 21))],[(Yu 21 l11.length)],[]⟩) (by kernel_rfl))))))))))))))))))) (λ⟨l1,l2⟩ y h=>Af q KZ Ka (tC h λc23_ h=>gR q EY Ka [(26,(AV.list 1 Aq 0 (l1.drop (1:Int).toNat) .none))] [] (c2 c23_ (show(AVle (.slice 1 (l1.length-(1:Int).toNat) (λi=>Aq (l1.getD ((1:Int).toNat+i) 0)) .none) (AV.list 1 Aq 0 (l1.drop (1:Int).toNat) .none)) from jL)) (tL q h EY Ka (λu (b24,i25,l26)=>(Cm u [(6,(.vsl 21 l26.length)),(7,(.bool b24)),(28,(Z5 i25))] [(Z4 21 l26)])) (λu (b27,l28)=>aG Γ (.exit 0) (Nb KZ Ka u [(6,(.vsl 21 l28.length)),(7,(.bool b27))] [(Z4 21 l28)])) (λ⟨b24,i25,l26⟩ y h=>Af q rI Ka (gC h (λh=>tB h λx36 y36 h=>gJ y36 (λ(b29,l30)=>aG Γ .normal (⟨[Uj,(5,(Wa l1 13)),(6,(.vsl 21 l30.length)),(7,(.bool b29)),(26,(AV.list 1 Aq 0 (l1.drop (1:Int).toNat) .none)),(27,(.int .i64 ((l1.drop (1:Int).toNat).length:Int))),(28,(Z5 i25))],[(Pt 56 (Q62 v18)),(Yu 13 l1.length),(Z4 21 l30)],[]⟩:St)) (λy h=>tV q rJ Ka h λh=>tC h λc32_ h=>tB h λx33 y33 h=>tT q rF Ka [⟨[],[],(Z5 x33),[],[21],[]⟩] (c4 c32_ (BG y33) (show(EE []) from trivial) (Eq.refl l26.length)) (tC h λc34_ h=>tU q rC Ka (c2 c34_ (Eq.refl l26.length)) (gC h (λh=>tC h λc35_ h=>tU q EY Ka (c2 c35_ (Eq.refl l26.length)) (tS h (gK (Be (Le.trans (Le.trans (Sq 21 (show ∀ k_,k_<l26.length->AVleL ((λi_=>AV.eraseAll xX ((Fa (λi=>Aq (l26.getD i 0)) (Q59 l1 i25).toNat 0 [(Z5 x33)]) i_)) k_) ((λi=>Aq ((l26.set (Q59 l1 i25).toNat x33).getD i 0)) k_) from(Bh (Db ..).symm (λk_ hk_=>(Bi (AV.eraseAll xX) ((Fs (λ_ _=>rfl) (Hx c35_) rfl) k_ hk_)).trans rfl)))) (Sc (λ(k_:Nat) u=>(Cm u [(6,(.vsl 21 k_))] [(21,.arr 1 3 k_ (λi=>Aq ((l26.set (Q59 l1 i25).toNat x33).getD i 0)))])) (show l26.length=(l26.set (Q59 l1 i25).toNat x33).length from(Db ..).symm))) H8))))) λh=>tS h (gK (Be (Bg EY Ka q)))))) (match x36,h with|⟨b29,l30⟩,h=>gA (Af q EY Ka (tN h)))) λh=>tS h (gO (Be (Bg KZ Ka q))))) λx38 h=>(match x38,h with|⟨b27,l28⟩,h=>gA (Af q [2,5,6,50] Ka (gC h (λh=>tS h (fy (Bg Xe Ka q))) λh=>Af q [4] [21] (Qa (⟨[(4,(.vsl 21 l28.length))],[(Z4 21 l28)],[]⟩:St) (tS h (fB (Lo (H7 [(21,20000)] (Le.trans (le_freeze (nm:=21) (sz:=1) (n:=l28.length) (e:=3) (f:=(λi=>Aq (l28.getD i 0))) (g:=(λi=>Aq (l28.getD i 0))) rfl ⟨rfl,trivial⟩ (λ_ _=>rfl) (by rw[hΓ];rfl)) (Gt (st':=⟨[(4,(Wa l28 21))],[(Yu 21 l28.length)],[]⟩) (by kernel_rfl)))))))))))))) (O3 (λst' hk=>tS h (gK hk))))
def Po(aaA:List TPhi)(aaC:Ax):Int->Option (LR Int (Unit ⊕ Bool)):=
 λi1=>bif decide (i1<aaA.length) then Az (A1 i1 aaA.length) ((G2 (aaA.getD i1.toNat default).From aaC).bind λx3=>bif bif !x3 then true else(aaA.getD i1.toNat default).Args.length !=(aaC.length:Int) then some (.done (.inr false)) else some (.next (w64 (i1+1)))) else some (.done (.inl ()))
def NC(Γ:H6)(aaA:List TPhi)(aaC:Ax)(r:Bool):Exit->St->Prop:=fK Tryz.prog Γ Tryz.f153.results.toList [] (.bool r) []
def Pd(aaA:List TPhi)(aaC:Ax):Option Bool:=
 (Ac   (Po aaA aaC) 0).bind λx4=>match x4 with | .inl _=>some true | .inr r6=>some r6
theorem JW(h:Pd v5 v2=some v3):sP 153 [(xf v5),(Z6 v2)] [] (.bool v3) []:=
 sG Tryz.func153 λΓ q=>tW q Gm [] Ng [] (tL q h Ng [] (λu i1=>(Cm u [(9,(Z5 i1))] [])) (λu x_=>match x_ with|(.inl _)=>aG Γ (.exit 0) (⟨[],[],[]⟩:St)|(.inr r_)=>aR (NC Γ v5 v2 r_)) (λi1 y h=>Af q MY [] (gC h (λh=>tV q MZ [6] h λh=>tB h λx3 y3 h=>tT q [1,7,8,9,25] [] [(Z2 x3)] (ci (Px y3) (ww ((!x3)==false) (c1 (L5 (!x3))))) (gC h (λh=>Af q [4] [] (tS h (gO (Lo (H7 [] (Le.refl _ _)))))) λh=>Af q Ng [] (tN h))) λh=>tS h (gO (Be (Bg [] [] q))))) λx4 h=>(match x4,h with | .inl _,h=>gA (Af q [4] [] (tS h (Ca []))) | .inr r6,h=>O3 (λst' hk=>tS h (gK hk))))
def Q65(aK:Ou):=(bif (aK.Kind==0) then true else(aK.Kind==2))
def Pc(aK:Ou):Option Bool:=
 some (bif bif aK.Kind==0 then true else aK.Kind==2 then true else aK.Arg==0)
theorem JV(h:Pc v8=some v3):sP 154 [(.agg (jZ v8))] [] (.bool v3) []:=
 sG Tryz.func154 λΓ q=>Af q [1] [1] (tU q [2] [] (Md ((v8.Kind==0)==false) (ci (L5 (v8.Kind==0)) (Md ((Q65 v8)==false) (c1 (L5 (Q65 v8)))))) (tS h (Ca [])))
def Dt(a3:TFunc)(a5:Int)(aB:List Bj)(x1:mp)(x3:Ax):Int->Option (LR Int (Unit ⊕ (Int×TFunc×Int×Ax×List Bj))):=
 λi4=>bif decide (i4<a3.Blocks.length) then Az (A1 i4 a3.Blocks.length) (Az (A1 i4 x1.1.Pred.length) ((Pd (a3.Blocks.getD i4.toNat default).Phis (x1.1.Pred.getD i4.toNat [])).bind λx7=>(bif (!x7)==false then Pc ⟨(a3.Blocks.getD i4.toNat default).End.Kind,(a3.Blocks.getD i4.toNat default).End.Arg,(a3.Blocks.getD i4.toNat default).End.To⟩ else some false).bind λx8=>bif bif !x7 then true else !x8 then some (.done (.inr (5,a3,a5,x3,aB))) else some (.next (w64 (i4+1))))) else some (.done (.inl ()))
def Xg(Γ:H6)(a3:TFunc)(a5:Int)(a7:Ax)(aB:List Bj)(r:nE):Exit->St->Prop:=fK Tryz.prog Γ Tryz.f105.results.toList (Z3 a3.Params a3.Ret a3.Blocks a5 a7 aB aB.length) (Z5 r.1) (Z3 r.2.1.Params r.2.1.Ret r.2.1.Blocks r.2.2.1 r.2.2.2.1 r.2.2.2.2 r.2.2.2.2.length)
def Q68(x1:mp):=((x1.2 !=0)==false)
def Q67(x3:Ax)(a3:TFunc)(a5:Int)(aB:List Bj):List NR:=[(Yu 31 x3.length),(30000,.row 102 [(Z6 a3.Params),(Z5 a3.Ret),(OY a3.Blocks),(Z5 a5),(Z6 x3),.nilm,(AV.list 5 Om default aB (.own 37006))]),(Ln 37006 211 aB.length)]
def Q66(x3:Ax)(a3:TFunc)(a5:Int)(aB:List Bj):List NR:=[(Yu 31 x3.length),(30000,.row 102 [(Z6 a3.Params),(Z5 a3.Ret),(OY a3.Blocks),(Z5 a5),(Wa x3 31),.nilm,(AV.list 5 Om default aB (.own 37006))]),(Ln 37006 211 aB.length)]
def I9(a3:TFunc)(a5:Int)(a7:Ax)(aB:List Bj):Option nE:=
 (Tz a3).bind λx1=>(bif (x1.2 !=0)==false then Ld x1.1 0 else some []).bind λx2=>bif bif x1.2 !=0 then true else decide ((x2.length:Int)<a3.Blocks.length) then some (5,a3,a5,a7,aB) else(Ty x1.1 0).bind λx3=>(Ac   (Dt a3 a5 aB x1 x3) 0).bind λx9=>match x9 with | .inl _=>some (0,a3,a5,x3,aB) | .inr r11=>some r11
theorem Wm(h:I9 v0 v1 v2 v12=some v13):sP 105 OX (Z3 v0.Params v0.Ret v0.Blocks v1 v2 v12 v12.length) (Z5 v13.1) (Z3 v13.2.1.Params v13.2.1.Ret v13.2.1.Blocks v13.2.2.1 v13.2.2.2.1 v13.2.2.2.2 v13.2.2.2.2.length):=
 sG Tryz.func105 λΓ q=>Af q [0] I6 (tB h λx1 y1 h=>tT q S8 TG [(xe x1.1 x1.2)] (c1 (MA y1)) (tB h λx2 y2 h=>tT q [0,3,28] TG [⟨[],[],(Z6 x2),[],[],[]⟩] (fq (gI (Q68 x1)) (show((Q68 x1)=true->(sP 151 [(.agg (Xo x1.1)),L9] [] (Z6 x2) [])) from(λhg=>(Spec.drop (BH (A9 hg y2))))) (gI8 (Q68 x1) (c1 (L5 (x1.2 !=0))))) (gC h (λh=>Af q [2] I6 (tS h (Ca Zd))) λh=>tB h λx3 y3 h=>tT q Rm YX [(xZ 31 x3 x3.length)] (c1 (dl y3)) (Af q io YX (tL q h io YX (λu i4=>(Cm u [(40,(Z5 i4))] [])) (λu x_=>match x_ with|(.inl _)=>aG Γ (.exit 0) (Nb [] ZA u [] [])|(.inr r_)=>aR (Xg Γ v0 v1 v2 v12 r_)) (λi4 y h=>Af q [3,38,39,40,41] YX (gC h (λh=>tV q [3,5,6,38,39,40] [3,6,31,30000,37006] h λh=>tC h λc6_ h=>tB h λx7 y7 h=>tB h λx8 y8 h=>tT q [3,38,39,40,59] YX [(Z2 x7),(Z2 x8)] (fq c6_ (JW y7) (Md ((!x7)==false) (c3 (λ(hg:((!x7)==false)=true)=>(JV (A9 hg y8))) (gI ((!x7)==false)) (L5 (!x7))))) (gC h (λh=>Af q [2] ZA (Qa (⟨[(2,(.int .i64 (5:Int)))],(Q66 x3 v0 v1 v12),[]⟩:St) (tS h (gO (Lo (H7 Zd (show Le Γ _ (⟨[(2,(.int .i64 (5:Int)))],(Q67 x3 v0 v1 v12),[]⟩:St) from Le.trans (Bg (st':=⟨[(2,(.int .i64 (5:Int)))],(Q66 x3 v0 v1 v12),[]⟩) [2] ZA q) (Jc (.cons (AVle.refl _) .nil) (.same (.row (.cons (AVle.refl _) (.cons (AVle.refl _) (.cons (AVle.refl _) (.cons (AVle.refl _) (.cons AVle.untag (.cons (AVle.refl _) (.cons (AVle.refl _) .nil))))))) (.same .nil))))))))))) λh=>Af q io YX (tN h))) λh=>tS h (gO (Be (Bg [] ZA q))))) λx9 h=>(match x9,h with | .inl _,h=>gA (Af q [2] ZA (Qa (⟨[(2,L9)],(Q66 x3 v0 v1 v12),[]⟩:St) (tS h (gK (e:=.ret) (H7 Zd (show Le Γ _ (⟨[(2,L9)],(Q67 x3 v0 v1 v12),[]⟩:St) from Le.trans (Bg (st':=⟨[(2,L9)],(Q66 x3 v0 v1 v12),[]⟩) [2] ZA q) (Jc (.cons (AVle.refl _) .nil) (.same (.row (.cons (AVle.refl _) (.cons (AVle.refl _) (.cons (AVle.refl _) (.cons (AVle.refl _) (.cons AVle.untag (.cons (AVle.refl _) (.cons (AVle.refl _) .nil))))))) (.same .nil)))))))))) | .inr r11,h=>O3 (λst' hk=>tS h (gK hk))))))))
def Lg(aI:Int):Option Bool:=
 Option.bind  (bif aI==1 then some (aI==1) else bif aI==8 then some (aI==8) else bif aI==16 then some (aI==16) else bif aI==32 then some (aI==32) else some (aI==64)) λx2=>bif x2 then some true else some false
theorem N4(h:Lg v1=some v3):sP 156 [(Z5 v1)] [] (.bool v3) []:=
 sG Tryz.func156 λΓ q=>tW q [0] [] [3] [] (tB h λx2 y2 h=>gJ y2 (λb1=>aG Γ .normal (⟨[(4,(.bool b1))],[],[]⟩:St)) (λy h=>Af q [3,4] [] (gC h (λh=>tS h (gK (Be (Bg [4] [] q)))) λh=>Af q [3,4] [] (gC h (λh=>tS h (gK (Be (Bg [4] [] q)))) λh=>Af q [3,4] [] (gC h (λh=>tS h (gK (Be (Bg [4] [] q)))) λh=>Af q [3,4] [] (gC h (λh=>tS h (gK (Be (Bg [4] [] q)))) λh=>Af q [4] [] (tS h (gK (Be H8)))))))) (gA (gC h (λh=>Af q [2] [] (tS h (Ca []))) λh=>Af q [2] [] (tS h (Ca [])))))
def Pn(aA:Ax):Int->Option (LR Int (Unit ⊕ Bool)):=
 λi1=>bif decide (i1<aA.length) then Az (A1 i1 aA.length) ((Lg (aA.getD i1.toNat 0)).bind λx3=>bif !x3 then some (.done (.inr false)) else some (.next (w64 (i1+1)))) else some (.done (.inl ()))
def NB(Γ:H6)(aA:Ax)(r:Bool):Exit->St->Prop:=fK Tryz.prog Γ Tryz.f155.results.toList [] (.bool r) []
def Pb(aA:Ax):Option Bool:=
 (Ac   (Pn aA) 0).bind λx4=>match x4 with | .inl _=>some true | .inr r6=>some r6
theorem JU(h:Pb v2=some v3):sP 155 [(Z6 v2),(.clo 156 [] [])] [] (.bool v3) []:=
 sG Tryz.func155 λΓ q=>tW q Gm [] Ng [] (tL q h Ng [] (λu i1=>(Cm u [(9,(Z5 i1))] [])) (λu x_=>match x_ with|(.inl _)=>aG Γ (.exit 0) (⟨[],[],[]⟩:St)|(.inr r_)=>aR (NB Γ v2 r_)) (λi1 y h=>Af q MY [] (gC h (λh=>tV q MZ [] h λh=>tB h λx3 y3 h=>tT q UK [] [(Z2 x3)] (c1 (N4 y3)) (gC h (λh=>Af q [4] [] (tS h (gO (Lo (H7 [] (Le.refl _ _)))))) λh=>Af q Ng [] (tN h))) λh=>tS h (gO (Be (Bg [] [] q))))) λx4 h=>(match x4,h with | .inl _,h=>gA (Af q [4] [] (tS h (Ca []))) | .inr r6,h=>O3 (λst' hk=>tS h (gK hk))))
def Rr(aV:TPhi):Option Bool:=
 (Lg aV.Bits).bind λx1=>some x1
theorem HU(h:Rr v4=some v3):sP 200 [(.agg (Ej v4))] [] (.bool v3) []:=
 sG Tryz.func200 λΓ q=>Af q [1] [1] (tB h λx1 y1 h=>tT q [2] [] [(Z2 x1)] (c1 (N4 y1)) (tS h (Ca [])))
def Mf(aA:List TPhi):Int->Option (LR Int (Unit ⊕ Bool)):=
 λi1=>bif decide (i1<aA.length) then Az (A1 i1 aA.length) ((Rr (aA.getD i1.toNat default)).bind λx3=>bif !x3 then some (.done (.inr false)) else some (.next (w64 (i1+1)))) else some (.done (.inl ()))
def DV(Γ:H6)(aA:List TPhi)(r:Bool):Exit->St->Prop:=fK Tryz.prog Γ Tryz.f199.results.toList [] (.bool r) []
def Lp(aA:List TPhi):Option Bool:=
 (Ac   (Mf aA) 0).bind λx4=>match x4 with | .inl _=>some true | .inr r6=>some r6
theorem BE(h:Lp v5=some v3):sP 199 [(xf v5),(.clo 200 [] [])] [] (.bool v3) []:=
 sG Tryz.func199 λΓ q=>tW q Gm [] Ng [] (tL q h Ng [] (λu i1=>(Cm u [(9,(Z5 i1))] [])) (λu x_=>match x_ with|(.inl _)=>aG Γ (.exit 0) (⟨[],[],[]⟩:St)|(.inr r_)=>aR (DV Γ v5 r_)) (λi1 y h=>Af q MY [] (gC h (λh=>tV q MZ [6] h λh=>tB h λx3 y3 h=>tT q UK [] [(Z2 x3)] (c1 (HU y3)) (gC h (λh=>Af q [4] [] (tS h (gO (Lo (H7 [] (Le.refl _ _)))))) λh=>Af q Ng [] (tN h))) λh=>tS h (gO (Be (Bg [] [] q))))) λx4 h=>(match x4,h with | .inl _,h=>gA (Af q [4] [] (tS h (Ca []))) | .inr r6,h=>O3 (λst' hk=>tS h (gK hk))))
def O4(aX:Int):Option Bool:=
 some (bif decide (0<=aX) then decide (aX<=22) else false)
theorem BK(h:O4 v1=some v3):sP 145 [(Z5 v1)] [] (.bool v3) []:=
 sG Tryz.func145 λΓ q=>Af q [0] [] (tU q [2] [] (c2 (gI ((decide ((0:Int)<=v1))==true)) (Ml (decide ((0:Int)<=v1)))) (tS h (Ca [])))
def Q69(x5:Bool)(aI:Int):=(bif x5 then(decide ((8:Int)<=aI)) else false)
def Tc(aI:Int)(aN:Int):Option Bool:=
 bif aN==1 then(Lg aI).bind λx1=>some x1 else Option.bind  (bif aN==2 then some (aN==2) else bif aN==4 then some (aN==4) else bif aN==8 then some (aN==8) else some (aN==16)) λx3=>bif x3 then(Lg aI).bind λx5=>some (bif bif x5 then decide (8<=aI) else false then decide (w64 (aI*aN)<=128) else false) else some false
theorem VR(h:Tc v1 v11=some v3):sP 277 [(Z5 v1),(Z5 v11)] [] (.bool v3) []:=
 sG Tryz.func277 λΓ q=>tW q Gm [] Nh [] (Af q Xd [] (gC h (λh=>tB h λx1 y1 h=>tT q [4] [] [(Z2 x1)] (c1 (N4 y1)) (tS h (Ca []))) λh=>tB h λx3 y3 h=>gJ y3 (λb2=>aG Γ .normal (⟨[(0,(Z5 v1)),(1,(Z5 v11)),(10,(.bool b2))],[],[]⟩:St)) (λy h=>Af q [0,1,5,10] [] (gC h (λh=>tS h (gK (Be (Bg Yr [] q)))) λh=>Af q [0,1,5,10] [] (gC h (λh=>tS h (gK (Be (Bg Yr [] q)))) λh=>Af q [0,1,5,10] [] (gC h (λh=>tS h (gK (Be (Bg Yr [] q)))) λh=>Af q Yr [] (tS h (gK (Be H8))))))) (gA (gC h (λh=>tB h λx5 y5 h=>tT q [4] [] [(Z2 x5)] (UN (N4 y5) (gI (x5==true)) (Ml x5) (Yy ((Q69 x5 v1)==true) (c1 (Ml (Q69 x5 v1))))) (tS h (Ca []))) λh=>Af q [4] [] (tS h (Ca []))))))
def Q70(a1:TOp):List NR:=[(yo a1.Kind a1.Bits a1.Lanes a1.Dst a1.Args a1.Imm)]
def Oh(a1:TOp):Option Bool:=
 Option.bind  (bif a1.Kind==16 then some (a1.Kind==16) else some (a1.Kind==17)) λx2=>bif x2 then some (decide (8<=a1.Bits)) else Option.bind  (bif a1.Kind==18 then some (a1.Kind==18) else some (a1.Kind==19)) λx5=>bif x5 then some (bif decide (8<=a1.Bits) then a1.Lanes==1 else false) else Option.bind  (bif a1.Kind==4 then some (a1.Kind==4) else bif a1.Kind==10 then some (a1.Kind==10) else bif a1.Kind==11 then some (a1.Kind==11) else bif a1.Kind==12 then some (a1.Kind==12) else bif a1.Kind==14 then some (a1.Kind==14) else bif a1.Kind==15 then some (a1.Kind==15) else some (a1.Kind==20)) λx8=>bif x8 then some (a1.Lanes==1) else Option.bind  (bif a1.Kind==21 then some (a1.Kind==21) else some (a1.Kind==22)) λx11=>bif x11 then some (decide (1<a1.Lanes)) else some true
theorem HW(h:Oh v6=some v3):sP 278 [(WD v6)] [] (.bool v3) []:=
 sG Tryz.func278 λΓ q=>tW q [1] [1] P5 [1] (tB h λx2 y2 h=>gJ y2 (λb1=>aG Γ .normal (⟨[AA,(4,(Z5 v6.Kind)),(5,(.bool b1))],(Q70 v6),[]⟩:St)) (λy h=>Af q [1,4,5] [1] (gC h (λh=>tS h (gK (Be H8))) λh=>Af q [1,4,5] [1] (tS h (gK (Be H8))))) (gA (gC h (λh=>Af q [2] [] (tS h (Ca []))) λh=>tB h λx5 y5 h=>gJ y5 (λb4=>aG Γ .normal (⟨[AA,(4,(Z5 v6.Kind)),(11,(.bool b4))],(Q70 v6),[]⟩:St)) (λy h=>Af q [1,4,11] [1] (gC h (λh=>tS h (gK (Be H8))) λh=>Af q [1,4,11] [1] (tS h (gK (Be H8))))) (gA (gC h (λh=>tU q [2] [] (Md ((decide ((8:Int)<=v6.Bits))==true) (c1 (Ml (decide ((8:Int)<=v6.Bits))))) (tS h (Ca []))) λh=>tB h λx8 y8 h=>gJ y8 (λb7=>aG Γ .normal (⟨[AA,(4,(Z5 v6.Kind)),(22,(.bool b7))],(Q70 v6),[]⟩:St)) (λy h=>Af q GC [1] (gC h (λh=>tS h (gK (Be H8))) λh=>Af q GC [1] (gC h (λh=>tS h (gK (Be H8))) λh=>Af q GC [1] (gC h (λh=>tS h (gK (Be H8))) λh=>Af q GC [1] (gC h (λh=>tS h (gK (Be H8))) λh=>Af q GC [1] (gC h (λh=>tS h (gK (Be H8))) λh=>Af q GC [1] (gC h (λh=>tS h (gK (Be H8))) λh=>Af q GC [1] (tS h (gK (Be H8)))))))))) (gA (gC h (λh=>Af q [2] [] (tS h (Ca []))) λh=>tB h λx11 y11 h=>gJ y11 (λb10=>aG Γ .normal (⟨[AA,(33,(.bool b10))],(Q70 v6),[]⟩:St)) (λy h=>Af q [1,4,33] [1] (gC h (λh=>tS h (gK (Be (Bg [1,33] [1] q)))) λh=>Af q [1,33] [1] (tS h (gK (Be H8))))) (gA (gC h (λh=>Af q [2] [] (tS h (Ca []))) λh=>Af q [2] [] (tS h (Ca [])))))))))))
def X1(aH:Int)(aI:Int):Option Int:=
 (Lg aI).bind λx1=>bif !x1 then some 0 else Az (0<=w64 (64-aI)) (Az (0<=w64 (64-aI)) (some (Wx .u64 (SJ .u64 aH (w64 (64-aI))) (w64 (64-aI)))))
theorem dp(h:X1 v1 v11=some v20):sP 121 [(.int .u64 v1),(Z5 v11)] [] (.int .u64 v20) []:=
 sG Tryz.func121 λΓ q=>Af q Gm [] (tB h λx1 y1 h=>tT q [0,1,7] [] [(Z2 x1)] (c1 (N4 y1)) (gC h (λh=>Af q [4] [] (tS h (Ca []))) λh=>tC h λc2_ h=>tC h λc3_ h=>tU q [4] [] (c2 c2_ c3_) (tS h (Ca []))))
def Nu(aaD:Int):Option Bool:=
 (bif decide (aaD<=64)==true then Lg (w64 aaD) else some false).bind λx1=>some (bif decide (aaD<=64) then x1 else false)
theorem Y5(h:Nu v1=some v3):sP 291 [(.int .u64 v1)] [] (.bool v3) []:=
 sG Tryz.func291 λΓ q=>Af q [0] [] (tB h λx1 y1 h=>tT q [2] [] [(Z2 x1)] (Md ((decide (v1<=64))==true) (c2 (λ(hg:((decide (v1<=64))==true)=true)=>(N4 (A9 hg y1))) (Ml (decide (v1<=64))))) (tS h (Ca [])))
def Qx(a1:TOp):Option Bool:=
 bif a1.Kind==0 then(X1 a1.Imm a1.Bits).bind λx1=>some (x1==a1.Imm) else bif a1.Kind==14 then(Nu a1.Imm).bind λx2=>some (bif x2 then decide (a1.Imm<Iy a1.Bits) else false) else bif a1.Kind==15 then(Nu a1.Imm).bind λx3=>some (bif x3 then decide (Iy a1.Bits<a1.Imm) else false) else bif a1.Kind==22 then some (decide (a1.Imm<Iy a1.Lanes)) else some (a1.Imm==0)
theorem NO(h:Qx v6=some v3):sP 279 [(WD v6)] [] (.bool v3) []:=
 sG Tryz.func279 λΓ q=>tW q [1] [1] P5 [1] (Af q [1,4,5] [1] (gC h (λh=>tB h λx1 y1 h=>tT q [2] [] [⟨[],[],(.int .u64 x1),[],[],[]⟩] (c1 (dp y1)) (tS h (Ca []))) λh=>Af q [1,4,15] [1] (gC h (λh=>tB h λx2 y2 h=>tT q [2] [] [(Z2 x2)] (ci (Y5 y2) (ww (x2==true) (c1 (Ml x2)))) (tS h (Ca []))) λh=>Af q [1,4,28] [1] (gC h (λh=>tB h λx3 y3 h=>tT q [2] [] [(Z2 x3)] (ci (Y5 y3) (ww (x3==true) (c1 (Ml x3)))) (tS h (Ca []))) λh=>Af q [1,41] [1] (gC h (λh=>Af q [2] [] (tS h (Ca []))) λh=>Af q [2] [] (tS h (Ca [])))))))
abbrev KK:=((Int×Int))
abbrev qy:=(List (Int×Int))
def Ix(aaG:List KK):Option qy:=
 some aaG
variable{v21:List KK}{v22:List KK}
theorem Je(h:Ix v21=some v22):sP 282 [(Z7 v21)] [] (Z7 v22) []:=
 sG Tryz.func282 λΓ q=>gR q [0] [] [(2,ym)] [] (c1 (Bz 2 Bp ((0:Int),(0:Int)))) (Af q [2] [] (tS h (Ca [])))
abbrev zu:=(Int×List (Int×Int))
abbrev zw:=(LR (Int×List (Int×Int)) (List (Int×Int)))
def Dj :zu->Option zw:=
 λ(i7,l8)=>bif decide (i7<l8.length) then Az (0<=i7/\0+i7.toNat<=l8.length) (Az (0<=i7/\0+i7.toNat<=l8.length) (some (.next (w64 (i7+Nat.min (0+i7.toNat-0) (l8.length-(0+i7.toNat))),OB l8 (0+i7.toNat) (Nat.min (0+i7.toNat-0) (l8.length-(0+i7.toNat))) λi=>l8.getD (0+i) (0,0))))) else some (.done l8)
def nu(x3:J8):=(List.replicate (w64 x3.2).toNat ((0:Int),(0:Int)))
def Q73(x3:J8)(aD:List KK):=(OB (nu x3) 0 (Nat.min aD.length ((nu x3).length-0)) (λi=>aD.getD i ((0:Int),(0:Int))))
def Q72(l8:List KK)(i7:Int):=(OB l8 (0+i7.toNat) (Nat.min ((0+i7.toNat)-0) (l8.length-(0+i7.toNat))) (λi=>l8.getD (0+i) ((0:Int),(0:Int))))
def Cd(aD:List KK)(aa8:Int):Option qy:=
 Option.bind  (bif decide (aa8<0) then none else some ()) λx1=>match x1 with|_=>(Rq (Iy aD.length) (Iy aa8)).bind λx3=>Option.bind  (bif bif decide (0<x3.1) then true else decide (9223372036854775807<x3.2) then none else some ()) λx4=>match x4 with|_=>Az (0<=w64 x3.2/\w64 x3.2<=w64 x3.2/\w64 x3.2<=room) ((Ac   Dj (Nat.min aD.length ((List.replicate (w64 x3.2).toNat ((0:Int),(0:Int))).length-0),OB (List.replicate (w64 x3.2).toNat (0,0)) 0 (Nat.min aD.length ((List.replicate (w64 x3.2).toNat ((0:Int),(0:Int))).length-0)) λi=>aD.getD i (0,0))).bind λx12=>some x12)
theorem Sr(h:Cd v21 v1=some v22):sP 283 [(Z7 v21),(Z5 v1)] [] (wP v22 20000) [(20000,.tok 2 90 v22.length)]:=
 sG Tryz.func283 λΓ q=>have hΓ:=q.own;gR q Gm [] [(4,ym)] [] (c1 (Bz 2 Bp ((0:Int),(0:Int)))) (tB h λx1 y1 h=>gJ y1 (λ_=>aG Γ .normal (⟨[(0,(Z7 v21)),(1,(Z5 v1))],[],[]⟩:St)) (λy h=>Af q Yr [] (gC h (λh=>nomatch h) λh=>tS h (gK (Be (Bg Gm [] q))))) (gA (tB h λx3 y3 h=>tT q [0,5,6] [] [⟨[],[],(.tuple (wT x3.1 x3.2)),[],[],[]⟩] (c1 (LY y3)) (tB h λx4 y4 h=>gJ y4 (λ_=>aG Γ .normal (⟨[(0,(Z7 v21)),(6,(.int .u64 x3.2))],[],[]⟩:St)) (λy h=>tU q [0,6,26] [] (c2 (gI ((decide ((0:Int)<x3.1))==false)) (L5 (decide ((0:Int)<x3.1)))) (gC h (λh=>nomatch h) λh=>tS h (gK (Be (Bg [0,6] [] q))))) (gA (tV q [0,7] [30] h λh=>by exact gLe (Le.trans (Sq 30 (show ∀ k_,k_<((w64 x3.2).toNat)->AVleL ((λi_=>AV.eraseAll (λn_=>Bv n_ [30]) ((λ_=>[L9,L9]) i_)) k_) ((λi=>Bp ((nu x3).getD i ((0:Int),(0:Int)))) k_) from(λk hk=>M9 (e:=Bp) (d:=((0:Int),(0:Int))) (.cons (AVle.refl _) (.cons (AVle.refl _) .nil)) _ k (Na hk)))) (Sc (λ(k_:Nat) u=>(Cm u [(Vo 30 k_)] [(30,.arr 2 90 k_ (λi=>Bp ((nu x3).getD i ((0:Int),(0:Int)))))])) (show(w64 x3.2).toNat=(nu x3).length from(Oa ..).symm))) (tU q [7,8] [30] (c1 (Eq.refl ((nu x3).length))) (gLe (Le.trans (Sq 30 (show ∀ k_,k_<((nu x3).length)->AVleL ((λi_=>AV.eraseAll (λn_=>Bv n_ [30]) ((WL (λi=>Bp ((nu x3).getD i ((0:Int),(0:Int)))) 0 (Nat.min v21.length ((nu x3).length-0)) (λi=>Bp (v21.getD i ((0:Int),(0:Int))))) i_)) k_) ((λi=>Bp ((Q73 x3 v21).getD i ((0:Int),(0:Int)))) k_) from(Bh (Ei ..) (λk_ hk_=>(Bi (AV.eraseAll (λn_=>Bv n_ [30])) ((OA (e:=Bp) (d:=((0:Int),(0:Int))) (l:=(nu x3)) (s:=(λi=>v21.getD i ((0:Int),(0:Int)))) (λ_ _=>rfl) (λ_ _=>rfl)) k_ hk_)).trans rfl)))) (Sc (λ(k_:Nat) u=>(Cm u [(Vo 30 k_)] [(30,.arr 2 90 k_ (λi=>Bp ((Q73 x3 v21).getD i ((0:Int),(0:Int)))))])) (show(nu x3).length=(Q73 x3 v21).length from(Ei ..)))) (tL q h [7,8] [30] (λu (i7,l8)=>(Cm u [(Vo 30 l8.length),(8,(Z5 i7))] (Z73 l8))) (λu l9=>aG Γ (.exit 0) (⟨[(Vo 30 l9.length)],(Z73 l9),[]⟩:St)) (λ⟨i7,l8⟩ y h=>Af q [7,8,37] [30] (gC h (λh=>tC h λc10_ h=>tC h λc11_ h=>tU q [7,8] [30] (c4 c10_ c11_ (Eq.refl l8.length) (Eq.refl l8.length)) (tS h (gN (Le.trans (Le.trans (Sq 30 (show ∀ k_,k_<l8.length->AVleL ((λi_=>AV.eraseAll (λn_=>Bv n_ [30]) ((WL (λi=>Bp (l8.getD i ((0:Int),(0:Int)))) (0+i7.toNat) (Nat.min ((0+i7.toNat)-0) (l8.length-(0+i7.toNat))) (λi=>(λi=>Bp (l8.getD i ((0:Int),(0:Int)))) (0+i))) i_)) k_) ((λi=>Bp ((Q72 l8 i7).getD i ((0:Int),(0:Int)))) k_) from(Bh (Ei ..) (λk_ hk_=>(Bi (AV.eraseAll (λn_=>Bv n_ [30])) ((OA (e:=Bp) (d:=((0:Int),(0:Int))) (l:=l8) (s:=(λi=>l8.getD (0+i) ((0:Int),(0:Int)))) (λ_ _=>rfl) (λ_ _=>rfl)) k_ hk_)).trans rfl)))) (Sc (λ(k_:Nat) u=>(Cm u [(Vo 30 k_)] [(30,.arr 2 90 k_ (λi=>Bp ((Q72 l8 i7).getD i ((0:Int),(0:Int)))))])) (show l8.length=(Q72 l8 i7).length from(Ei ..)))) H8)))) λh=>tS h (gO (Be (Bg [7] [30] q))))) λx12 h=>gA (Af q [4] [30] (Qa (⟨[(4,(.vsl 30 x12.length))],(Z73 x12),[]⟩:St) (tS h (gK (e:=.ret) (H7 [(30,20000)] (Le.trans (le_freeze (nm:=30) (sz:=2) (n:=x12.length) (e:=90) (f:=(λi=>Bp (x12.getD i ((0:Int),(0:Int))))) (g:=(λi=>Bp (x12.getD i ((0:Int),(0:Int))))) rfl ⟨rfl,trivial⟩ (λ_ _=>rfl) (by rw[hΓ];rfl)) (Gt (st':=⟨[(4,(wP x12 30))],[(30,.tok 2 90 x12.length)],[]⟩) (by kernel_rfl)))))))))))))))))
def Q74(a1:TOp):List NR:=[(yo a1.Kind a1.Bits a1.Lanes a1.Dst a1.Args a1.Imm),(3,.row 90 [u1,u1]),(4,.row 90 [(.int .i64 (64:Int)),u1]),(5,.row 90 [(Z5 a1.Bits),(Z5 a1.Lanes)]),(6,.row 90 [(Z5 a1.Bits),u1])]
def Qy(a1:TOp):Option qy:=
 bif a1.Kind==0 then(Ix []).bind λx1=>some x1 else bif a1.Kind==13 then(Ix [(1,1),(a1.Bits,a1.Lanes),(a1.Bits,a1.Lanes)]).bind λx2=>some x2 else Option.bind  (bif a1.Kind==14 then some (a1.Kind==14) else some (a1.Kind==15)) λx4=>bif x4 then(Ix [(w64 a1.Imm,1)]).bind λx6=>some x6 else bif a1.Kind==16 then(Ix [(64,1)]).bind λx7=>some x7 else bif a1.Kind==17 then(Ix [(64,1),(a1.Bits,a1.Lanes)]).bind λx8=>some x8 else Option.bind  (bif a1.Kind==18 then some (a1.Kind==18) else some (a1.Kind==19)) λx10=>bif x10 then(Ix [(1,1),(64,1),(a1.Bits,1)]).bind λx12=>some x12 else bif a1.Kind==20 then(Ix [(1,1),(a1.Bits,1),(a1.Bits,1),(a1.Bits,1)]).bind λx13=>some x13 else bif a1.Kind==21 then(Cd [(a1.Bits,1)] a1.Lanes).bind λx14=>(Ix x14).bind λx15=>some x15 else bif a1.Kind==22 then(Ix [(a1.Bits,a1.Lanes)]).bind λx16=>some x16 else(Ix [(a1.Bits,a1.Lanes),(a1.Bits,a1.Lanes)]).bind λx17=>some x17
theorem EM(h:Qy v6=some v21):sP 244 [(WD v6)] [] (Z7 v21) []:=
 sG Tryz.func244 λΓ q=>gR q [1] [1] [(2,ym)] [] (c1 (Bz 2 Bp ((0:Int),(0:Int)))) (tW q H3 H3 Sn Sn (tW q [1,3,4,5,6,18] Sn [1,3,4,5,6,18,19] Sn (gC h (λh=>tB h λx1 y1 h=>tT q [2] [] [(lM x1)] (c1 (show(sP 282 [Z0] [] (Z7 x1) []) from(Spec.args (.cons sl .nil) (Je y1)))) (tS h (Ca []))) λh=>Af q [1,3,4,5,6,18,22] Sn (gC h (λh=>tB h λx2 y2 h=>gR q [2] [] [(27,(AV.list 2 Bp ((0:Int),(0:Int)) ([((1:Int),(1:Int)),(v6.Bits,v6.Lanes),(v6.Bits,v6.Lanes)]:List J8) .exact))] [(lM x2)] (c2 (Bq 2 Bp ((0:Int),(0:Int)) ([((1:Int),(1:Int)),(v6.Bits,v6.Lanes),(v6.Bits,v6.Lanes)]:List J8)) (Je y2)) (tS h (Ca []))) λh=>tB h λx4 y4 h=>gJ y4 (λb3=>aG Γ .normal (⟨[AA,(3,(.ptr 3 0)),ZN,fA,(6,(.ptr 6 0)),(18,(Z5 v6.Kind)),(29,(.bool b3))],(Q74 v6),[]⟩:St)) (λy h=>Af q [1,3,4,5,6,18,29] Sn (gC h (λh=>tS h (gK (Be H8))) λh=>Af q [1,3,4,5,6,18,29] Sn (tS h (gK (Be H8))))) (gA (gC h (λh=>tB h λx6 y6 h=>gR q [2] [] [(36,(AV.list 2 Bp ((0:Int),(0:Int)) ([((w64 v6.Imm),(1:Int))]:List J8) .exact))] [(lM x6)] (c2 (Bq 2 Bp ((0:Int),(0:Int)) ([((w64 v6.Imm),(1:Int))]:List J8)) (Je y6)) (tS h (Ca []))) λh=>Af q [1,3,4,5,6,18,38] Sn (gC h (λh=>tB h λx7 y7 h=>gR q [2] [] [(41,(AV.list 2 Bp ((0:Int),(0:Int)) ([((64:Int),(1:Int))]:List J8) .exact))] [(lM x7)] (c2 (Bq 2 Bp ((0:Int),(0:Int)) ([((64:Int),(1:Int))]:List J8)) (Je y7)) (tS h (Ca []))) λh=>Af q [1,3,4,5,6,18,43] Sn (gC h (λh=>tB h λx8 y8 h=>gR q [2] [] [(47,(AV.list 2 Bp ((0:Int),(0:Int)) ([((64:Int),(1:Int)),(v6.Bits,v6.Lanes)]:List J8) .exact))] [(lM x8)] (c2 (Bq 2 Bp ((0:Int),(0:Int)) ([((64:Int),(1:Int)),(v6.Bits,v6.Lanes)]:List J8)) (Je y8)) (tS h (Ca []))) λh=>tB h λx10 y10 h=>gJ y10 (λb9=>aG Γ .normal (⟨[AA,(3,(.ptr 3 0)),ZN,fA,(6,(.ptr 6 0)),(18,(Z5 v6.Kind)),(49,(.bool b9))],(Q74 v6),[]⟩:St)) (λy h=>Af q [1,3,4,5,6,18,49] Sn (gC h (λh=>tS h (gK (Be H8))) λh=>Af q [1,3,4,5,6,18,49] Sn (tS h (gK (Be H8))))) (gA (gC h (λh=>tB h λx12 y12 h=>gR q [2] [] [(55,(AV.list 2 Bp ((0:Int),(0:Int)) ([((1:Int),(1:Int)),((64:Int),(1:Int)),(v6.Bits,(1:Int))]:List J8) .exact))] [(lM x12)] (c2 (Bq 2 Bp ((0:Int),(0:Int)) ([((1:Int),(1:Int)),((64:Int),(1:Int)),(v6.Bits,(1:Int))]:List J8)) (Je y12)) (tS h (Ca []))) λh=>Af q [1,3,5,6,18,57] IP (gC h (λh=>tB h λx13 y13 h=>gR q [2] [] [(63,(AV.list 2 Bp ((0:Int),(0:Int)) ([((1:Int),(1:Int)),(v6.Bits,(1:Int)),(v6.Bits,(1:Int)),(v6.Bits,(1:Int))]:List J8) .exact))] [(lM x13)] (c2 (Bq 2 Bp ((0:Int),(0:Int)) ([((1:Int),(1:Int)),(v6.Bits,(1:Int)),(v6.Bits,(1:Int)),(v6.Bits,(1:Int))]:List J8)) (Je y13)) (tS h (Ca []))) λh=>Af q [1,5,6,18,65] [1,5,6] (gC h (λh=>tB h λx14 y14 h=>tB h λx15 y15 h=>gR q [2] [] [(68,(AV.list 2 Bp ((0:Int),(0:Int)) ([(v6.Bits,(1:Int))]:List J8) .exact))] [⟨[],[(20000,71)],(wP x14 20000),[(20000,.tok 2 90 x14.length)],[],[]⟩,(lM x15)] (c3 (Bq 2 Bp ((0:Int),(0:Int)) ([(v6.Bits,(1:Int))]:List J8)) (Sr y14) (Je y15)) (tS h (Ca []))) λh=>Af q [5,73] [5] (gC h (λh=>tB h λx16 y16 h=>gR q [2] [] [(76,(AV.list 2 Bp ((0:Int),(0:Int)) ([(v6.Bits,v6.Lanes)]:List J8) .exact))] [(lM x16)] (c2 (Bq 2 Bp ((0:Int),(0:Int)) ([(v6.Bits,v6.Lanes)]:List J8)) (Je y16)) (tS h (Ca []))) λh=>tB h λx17 y17 h=>gR q [2] [] [(80,(AV.list 2 Bp ((0:Int),(0:Int)) ([(v6.Bits,v6.Lanes),(v6.Bits,v6.Lanes)]:List J8) .exact))] [(lM x17)] (c2 (Bq 2 Bp ((0:Int),(0:Int)) ([(v6.Bits,v6.Lanes),(v6.Bits,v6.Lanes)]:List J8)) (Je y17)) (tS h (Ca [])))))))))))))))
def Nt(aH:Int):Option Bool:=
 some (bif decide (1<=aH) then decide (aH<=1023) else false)
theorem Y4(h:Nt v1=some v3):sP 292 [(Z5 v1)] [] (.bool v3) []:=
 sG Tryz.func292 λΓ q=>Af q [0] [] (tU q [2] [] (c2 (gI ((decide ((1:Int)<=v1))==true)) (Ml (decide ((1:Int)<=v1)))) (tS h (Ca [])))
def Ko(a1:TOp):Int->Option (LR Int (Unit ⊕ Bool)):=
 λi2=>bif decide (i2<a1.Args.length) then Az (A1 i2 a1.Args.length) ((Nt (a1.Args.getD i2.toNat 0)).bind λx4=>bif !x4 then some (.done (.inr false)) else some (.next (w64 (i2+1)))) else some (.done (.inl ()))
def OR(Γ:H6)(a1:TOp)(r:Bool):Exit->St->Prop:=fK Tryz.prog Γ Tryz.f280.results.toList [] (.bool r) []
def Qu(a1:TOp):Option Bool:=
 (Qy a1).bind λx1=>bif (a1.Args.length:Int)!=x1.length then some false else(Ac   (Ko a1) 0).bind λx5=>match x5 with | .inl _=>some true | .inr r7=>some r7
theorem NM(h:Qu v6=some v3):sP 280 [(WD v6)] [] (.bool v3) []:=
 sG Tryz.func280 λΓ q=>Af q [1] [1] (tB h λx1 y1 h=>tT q [1,11] [1] [(lM x1)] (c1 (EM y1)) (gC h (λh=>Af q [2] [] (tS h (Ca []))) λh=>Af q [13,14,15] [] (tL q h [13,14,15] [] (λu i2=>(Cm u [(15,(Z5 i2))] [])) (λu x_=>match x_ with|(.inl _)=>aG Γ (.exit 0) (⟨[],[],[]⟩:St)|(.inr r_)=>aR (OR Γ v6 r_)) (λi2 y h=>Af q [13,14,15,16] [] (gC h (λh=>tV q [4,13,14,15] [] h λh=>tB h λx4 y4 h=>tT q [13,14,15,21] [] [(Z2 x4)] (c1 (Y4 y4)) (gC h (λh=>Af q [2] [] (tS h (gO (Lo (H7 [] (Le.refl _ _)))))) λh=>Af q [13,14,15] [] (tN h))) λh=>tS h (gO (Be (Bg [] [] q))))) λx5 h=>(match x5,h with | .inl _,h=>gA (Af q [2] [] (tS h (Ca []))) | .inr r7,h=>O3 (λst' hk=>tS h (gK hk))))))
def Q75(a1:TOp):List NR:=[(yo a1.Kind a1.Bits a1.Lanes a1.Dst a1.Args a1.Imm)]
def Qw(a1:TOp):Option J8:=
 Option.bind  (bif a1.Kind==17 then some (a1.Kind==17) else some (a1.Kind==19)) λx2=>bif x2 then some (0,0) else Option.bind  (bif a1.Kind==10 then some (a1.Kind==10) else bif a1.Kind==11 then some (a1.Kind==11) else some (a1.Kind==12)) λx5=>bif x5 then some (1,1) else bif a1.Kind==22 then some (a1.Bits,1) else some (a1.Bits,a1.Lanes)
theorem EL(h:Qw v6=some v19):sP 243 [(WD v6)] [] (.tuple [(Z5 v19.1),(Z5 v19.2)]) []:=
 sG Tryz.func243 λΓ q=>tW q [1] [1] [1,5] [1] (tB h λx2 y2 h=>gJ y2 (λb1=>aG Γ .normal (⟨[AA,(5,(Z5 v6.Kind)),(6,(.bool b1))],(Q75 v6),[]⟩:St)) (λy h=>Af q [1,5,6] [1] (gC h (λh=>tS h (gK (Be H8))) λh=>Af q [1,5,6] [1] (tS h (gK (Be H8))))) (gA (gC h (λh=>Af q Cy [] (tS h (Ca []))) λh=>tB h λx5 y5 h=>gJ y5 (λb4=>aG Γ .normal (⟨[AA,(5,(Z5 v6.Kind)),(9,(.bool b4))],(Q75 v6),[]⟩:St)) (λy h=>Af q [1,5,9] [1] (gC h (λh=>tS h (gK (Be H8))) λh=>Af q [1,5,9] [1] (gC h (λh=>tS h (gK (Be H8))) λh=>Af q [1,5,9] [1] (tS h (gK (Be H8)))))) (gA (gC h (λh=>Af q Cy [] (tS h (Ca []))) λh=>Af q [1,13] [1] (gC h (λh=>Af q Cy [] (tS h (Ca []))) λh=>Af q Cy [] (tS h (Ca []))))))))
def Qv(a1:TOp):Option Bool:=
 (Qw a1).bind λx1=>bif x1.1==0 then some (a1.Dst==0) else(Nt a1.Dst).bind λx2=>some x2
theorem NN(h:Qv v6=some v3):sP 281 [(WD v6)] [] (.bool v3) []:=
 sG Tryz.func281 λΓ q=>Af q [1] [1] (tB h λx1 y1 h=>tT q La [1] [(Z93 x1.1 x1.2)] (c1 (EL y1)) (Af q [1,11] [1] (gC h (λh=>Af q [2] [] (tS h (Ca []))) λh=>tB h λx2 y2 h=>tT q [2] [] [(Z2 x2)] (c1 (Y4 y2)) (tS h (Ca [])))))
def uv(x1:Bool)(x2:Bool):=(bif (!x1) then true else(!x2))
def Ru(a1:TOp):Option Bool:=
 (O4 a1.Kind).bind λx1=>(bif (!x1)==false then Tc a1.Bits a1.Lanes else some false).bind λx2=>(bif (bif !x1 then true else !x2)==false then Oh a1 else some false).bind λx3=>(bif (bif bif !x1 then true else !x2 then true else !x3)==false then Qx a1 else some false).bind λx4=>bif bif bif bif !x1 then true else !x2 then true else !x3 then true else !x4 then some false else(Qu a1).bind λx5=>(bif x5==true then Qv a1 else some false).bind λx6=>some (bif x5 then x6 else false)
theorem BJ(h:Ru v6=some v3):sP 241 [(WD v6)] [] (.bool v3) []:=
 sG Tryz.func241 λΓ q=>Af q [1] [1] (tB h λx1 y1 h=>tB h λx2 y2 h=>tB h λx3 y3 h=>tB h λx4 y4 h=>tT q [1,24] [1] [(Z2 x1),(Z2 x2),(Z2 x3),(Z2 x4)] (ci (BK y1) (LO ((!x1)==false) (d9_ (λ(hg:((!x1)==false)=true)=>(VR (A9 hg y2))) (gI ((!x1)==false)) (L5 (!x1)) (gI ((uv x1 x2)==false)) (λ(hg:((uv x1 x2)==false)=true)=>(HW (A9 hg y3))) (gI ((uv x1 x2)==false)) (L5 (uv x1 x2)) (gI ((bif (uv x1 x2) then true else(!x3))==false)) (λ(hg:((bif (uv x1 x2) then true else(!x3))==false)=true)=>(NO (A9 hg y4))) (c2 (gI ((bif (uv x1 x2) then true else(!x3))==false)) (L5 (bif (uv x1 x2) then true else(!x3))))))) (gC h (λh=>Af q [2] [] (tS h (Ca []))) λh=>tB h λx5 y5 h=>tB h λx6 y6 h=>tT q [2] [] [(Z2 x5),(Z2 x6)] (c4 (NM y5) (gI (x5==true)) (λ(hg:(x5==true)=true)=>(NN (A9 hg y6))) (Ml x5)) (tS h (Ca []))))
def Ta(a1:TOp)(aU:Int):Option Bool:=
 bif aU==0 then some (bif decide (a1.Kind<=17) then a1.Lanes==1 else false) else bif aU==1 then some (bif decide (a1.Kind<=20) then a1.Lanes==1 else false) else some true
theorem VM(h:Ta v6 v1=some v3):sP 242 [(WD v6),(Z5 v1)] [] (.bool v3) []:=
 sG Tryz.func242 λΓ q=>tW q Ea [2] V8 [2] (Af q Xe [2] (gC h (λh=>tU q [4] [] (Md ((decide (v6.Kind<=17))==true) (c1 (Ml (decide (v6.Kind<=17))))) (tS h (Ca []))) λh=>Af q V7 [2] (gC h (λh=>tU q [4] [] (Md ((decide (v6.Kind<=20))==true) (c1 (Ml (decide (v6.Kind<=20))))) (tS h (Ca []))) λh=>Af q [4] [] (tS h (Ca [])))))
abbrev CE:=(Bool×TFunc×Int×Ax×List Bj)
def Ig(a1:TOp)(a3:TFunc)(a5:Int)(a7:Ax)(aB:List Bj):Option CE:=
 (Ru a1).bind λx1=>(bif x1==true then Ta a1 a5 else some false).bind λx2=>some (bif x1 then x2 else false,a3,a5,a7,aB)
variable{v23:CE}
theorem V0(h:Ig v6 v0 v1 v2 v12=some v23):sP 202 [(.ptr 30000 0),(WD v6)] (Z3 v0.Params v0.Ret v0.Blocks v1 v2 v12 v12.length) (.bool v23.1) (Z3 v23.2.1.Params v23.2.1.Ret v23.2.1.Blocks v23.2.2.1 v23.2.2.2.1 v23.2.2.2.2 v23.2.2.2.2.length):=
 sG Tryz.func202 λΓ q=>Af q Rm TG (tB h λx1 y1 h=>tB h λx2 y2 h=>tT q [4] I6 [(Z2 x1),(Z2 x2)] (ci (BJ y1) (ww (x1==true) (c2 (λ(hg:(x1==true)=true)=>(VM (A9 hg y2))) (Ml x1)))) (tS h (Ca Zd)))
abbrev KL:=(Int×Ax×Int×List Ae×Int×Ax×List Bj)
abbrev zx:=(LR (Int×Ax×Int×List Ae×Int×Ax×List Bj) ((Ax×Int×List Ae×Int×Ax×List Bj) ⊕ (Bool×TFunc×Int×Ax×List Bj)))
def Hl(aA:List TOp):KL->Option zx:=
 λ(i1,l2,i3,l4,i5,l6,l7)=>bif decide (i1<aA.length) then Az (A1 i1 aA.length) ((Ig (aA.getD i1.toNat default) ⟨l2,i3,l4⟩ i5 l6 l7).bind λx15=>bif !x15.1 then some (.done (.inr (false,x15.2.1,x15.2.2.1,x15.2.2.2.1,x15.2.2.2.2))) else some (.next (w64 (i1+1),x15.2.1.Params,x15.2.1.Ret,x15.2.1.Blocks,x15.2.2.1,x15.2.2.2.1,x15.2.2.2.2))) else some (.done (.inl (l2,i3,l4,i5,l6,l7)))
def FB(Γ:H6)(aA:List TOp)(a3:TFunc)(a5:Int)(a7:Ax)(aB:List Bj)(r:CE):Exit->St->Prop:=fK Tryz.prog Γ Tryz.f201.results.toList (Z3 a3.Params a3.Ret a3.Blocks a5 a7 aB aB.length) (.bool r.1) (Z3 r.2.1.Params r.2.1.Ret r.2.1.Blocks r.2.2.1 r.2.2.2.1 r.2.2.2.2 r.2.2.2.2.length)
def Me(aA:List TOp)(a3:TFunc)(a5:Int)(a7:Ax)(aB:List Bj):Option CE:=
 (Ac   (Hl aA) (0,a3.Params,a3.Ret,a3.Blocks,a5,a7,aB)).bind λx16=>match x16 with | .inl (l8,i9,l10,i11,l12,l13)=>some (true,⟨l8,i9,l10⟩,i11,l12,l13) | .inr r18=>some r18
theorem DZ(h:Me v7 v0 v1 v2 v12=some v23):sP 201 [(xg v7),(.clo 202 OX [])] (Z3 v0.Params v0.Ret v0.Blocks v1 v2 v12 v12.length) (.bool v23.1) (Z3 v23.2.1.Params v23.2.1.Ret v23.2.1.Blocks v23.2.2.1 v23.2.2.2.1 v23.2.2.2.2 v23.2.2.2.2.length):=
 sG Tryz.func201 λΓ q=>tW q Gm I6 Ng I6 (tL q h Ng I6 (λu (i1,l2,i3,l4,i5,l6,l7)=>(Cm u [(9,(Z5 i1))] (Z3 l2 i3 l4 i5 l6 l7 l7.length))) (λu x_=>match x_ with|(.inl (l8,i9,l10,i11,l12,l13))=>aG Γ (.exit 0) (⟨[],(Z3 l8 i9 l10 i11 l12 l13 l13.length),[]⟩:St)|(.inr r_)=>aR (FB Γ v7 v0 v1 v2 v12 r_)) (λ⟨i1,l2,i3,l4,i5,l6,l7⟩ y h=>Af q MY I6 (gC h (λh=>tV q MZ [6,30000,37006] h λh=>tB h λx15 y15 h=>tT q UK I6 [(Z66 x15.1 x15.2.1.Params x15.2.1.Ret x15.2.1.Blocks x15.2.2.1 x15.2.2.2.1 x15.2.2.2.2 x15.2.2.2.2.length)] (c1 (V0 y15)) (gC h (λh=>Af q [4] I6 (tS h (gO (Lo (H7 Zd (Le.refl _ _)))))) λh=>Af q Ng I6 (tN h))) λh=>tS h (gO (Be (Bg [] I6 q))))) λx16 h=>(match x16,h with | .inl ⟨l8,i9,l10,i11,l12,l13⟩,h=>gA (Af q [4] I6 (tS h (Ca Zd))) | .inr r18,h=>O3 (λst' hk=>tS h (gK hk))))
def Q79(x1:Bool)(x2:CE)(a7:Ax):AV:=(Z63 x1 x2.2.2.2.1 a7)
def Q78(x1:Bool)(x2:CE)(a3:TFunc):AV:=(Z63 x1 x2.2.1.Params a3.Params)
def Q77(x1:Bool)(x2:CE)(a3:TFunc):AV:=(.slice 5 (bif (x1==true) then x2.2.1.Blocks.length else a3.Blocks.length) (λi=>bif (x1==true) then Cg (x2.2.1.Blocks.getD i default) else Cg (a3.Blocks.getD i default)) .none)
def Gu(aM:Ae)(a3:TFunc)(a5:Int)(a7:Ax)(aB:List Bj):Option CE:=
 (Lp aM.Phis).bind λx1=>(bif x1==true then Me aM.Ops a3 a5 a7 aB else some (false,default,0,[],[])).bind λx2=>some (bif x1 then x2.1 else false,⟨bif x1==true then x2.2.1.Params else a3.Params,bif x1==true then x2.2.1.Ret else a3.Ret,bif x1==true then x2.2.1.Blocks else a3.Blocks⟩,bif x1==true then x2.2.2.1 else a5,bif x1==true then x2.2.2.2.1 else a7,bif x1==true then x2.2.2.2.2 else aB)
theorem Td(h:Gu v9 v0 v1 v2 v12=some v23):sP 158 [(.ptr 30000 0),(.agg (Cg v9))] (Z3 v0.Params v0.Ret v0.Blocks v1 v2 v12 v12.length) (.bool v23.1) (Z3 v23.2.1.Params v23.2.1.Ret v23.2.1.Blocks v23.2.2.1 v23.2.2.2.1 v23.2.2.2.2 v23.2.2.2.2.length):=
 sG Tryz.func158 λΓ q=>Af q Rm TG (tB h λx1 y1 h=>tB h λx2 y2 h=>tT q [4] I6 [(Z2 x1),(Z66 x2.1 x2.2.1.Params x2.2.1.Ret x2.2.1.Blocks x2.2.2.1 x2.2.2.2.1 x2.2.2.2.2 x2.2.2.2.2.length)] (ci (BE y1) (LO (x1==true) (c2 (λ(hg:(x1==true)=true)=>(DZ (A9 hg y2))) (Ml x1)))) (tS h (gK (e:=.ret) (H7 Zd (Le.trans (leB (λg_ u=>(Cm u [] [(30000,.row 102 [(Q78 x1 x2 v0),(.int .i64 (bif (x1==true) then x2.2.1.Ret else v0.Ret)),(Q77 x1 x2 v0),(.int .i64 (bif (x1==true) then x2.2.2.1 else v1)),(Q79 x1 x2 v2),.nilm,(Z37 g_ x2.2.2.2.2 v12)]),(37006,.tok 5 211 (bif g_ then x2.2.2.2.2.length else v12.length))])) (λg_ u=>(Cm u [] [(30000,.row 102 [(Q78 x1 x2 v0),(.int .i64 (bif (x1==true) then x2.2.1.Ret else v0.Ret)),(Q77 x1 x2 v0),(.int .i64 (bif (x1==true) then x2.2.2.1 else v1)),(Q79 x1 x2 v2),.nilm,(AV.list 5 Om default (bif g_ then x2.2.2.2.2 else v12) (.own 37006))]),(37006,.tok 5 211 ((bif g_ then x2.2.2.2.2 else v12).length))])) (x1==true)) (Le.trans (td 30000 0 (show AVle (Q78 x1 x2 v0) (AV.list 1 Aq 0 (bif (x1==true) then x2.2.1.Params else v0.Params) .none) from Ke)) (Le.trans (td 30000 2 (show AVle (Q77 x1 x2 v0) (AV.list 5 Cg default (bif (x1==true) then x2.2.1.Blocks else v0.Blocks) .none) from Ke)) (td 30000 4 (show AVle (Q79 x1 x2 v2) (AV.list 1 Aq 0 (bif (x1==true) then x2.2.2.2.1 else v2) .none) from Ke)))))))))
def Fi(aA:List Ae):KL->Option zx:=
 λ(i1,l2,i3,l4,i5,l6,l7)=>bif decide (i1<aA.length) then Az (A1 i1 aA.length) ((Gu (aA.getD i1.toNat default) ⟨l2,i3,l4⟩ i5 l6 l7).bind λx15=>bif !x15.1 then some (.done (.inr (false,x15.2.1,x15.2.2.1,x15.2.2.2.1,x15.2.2.2.2))) else some (.next (w64 (i1+1),x15.2.1.Params,x15.2.1.Ret,x15.2.1.Blocks,x15.2.2.1,x15.2.2.2.1,x15.2.2.2.2))) else some (.done (.inl (l2,i3,l4,i5,l6,l7)))
def Zg(Γ:H6)(aA:List Ae)(a3:TFunc)(a5:Int)(a7:Ax)(aB:List Bj)(r:CE):Exit->St->Prop:=fK Tryz.prog Γ Tryz.f157.results.toList (Z3 a3.Params a3.Ret a3.Blocks a5 a7 aB aB.length) (.bool r.1) (Z3 r.2.1.Params r.2.1.Ret r.2.1.Blocks r.2.2.1 r.2.2.2.1 r.2.2.2.2 r.2.2.2.2.length)
def Jy(aA:List Ae)(a3:TFunc)(a5:Int)(a7:Ax)(aB:List Bj):Option CE:=
 (Ac   (Fi aA) (0,a3.Params,a3.Ret,a3.Blocks,a5,a7,aB)).bind λx16=>match x16 with | .inl (l8,i9,l10,i11,l12,l13)=>some (true,⟨l8,i9,l10⟩,i11,l12,l13) | .inr r18=>some r18
theorem X3(h:Jy v10 v0 v1 v2 v12=some v23):sP 157 [(OY v10),(.clo 158 OX [])] (Z3 v0.Params v0.Ret v0.Blocks v1 v2 v12 v12.length) (.bool v23.1) (Z3 v23.2.1.Params v23.2.1.Ret v23.2.1.Blocks v23.2.2.1 v23.2.2.2.1 v23.2.2.2.2 v23.2.2.2.2.length):=
 sG Tryz.func157 λΓ q=>tW q Gm I6 Ng I6 (tL q h Ng I6 (λu (i1,l2,i3,l4,i5,l6,l7)=>(Cm u [(9,(Z5 i1))] (Z3 l2 i3 l4 i5 l6 l7 l7.length))) (λu x_=>match x_ with|(.inl (l8,i9,l10,i11,l12,l13))=>aG Γ (.exit 0) (⟨[],(Z3 l8 i9 l10 i11 l12 l13 l13.length),[]⟩:St)|(.inr r_)=>aR (Zg Γ v10 v0 v1 v2 v12 r_)) (λ⟨i1,l2,i3,l4,i5,l6,l7⟩ y h=>Af q MY I6 (gC h (λh=>tV q MZ [6,30000,37006] h λh=>tB h λx15 y15 h=>tT q UK I6 [(Z66 x15.1 x15.2.1.Params x15.2.1.Ret x15.2.1.Blocks x15.2.2.1 x15.2.2.2.1 x15.2.2.2.2 x15.2.2.2.2.length)] (c1 (Td y15)) (gC h (λh=>Af q [4] I6 (tS h (gO (Lo (H7 Zd (Le.refl _ _)))))) λh=>Af q Ng I6 (tN h))) λh=>tS h (gO (Be (Bg [] I6 q))))) λx16 h=>(match x16,h with | .inl ⟨l8,i9,l10,i11,l12,l13⟩,h=>gA (Af q [4] I6 (tS h (Ca Zd))) | .inr r18,h=>O3 (λst' hk=>tS h (gK hk))))
def lI(x1:Bool)(x2:Bool):=((bif x1 then x2 else false)==true)
def Q83(x1:Bool)(x2:Bool)(x3:CE)(a7:Ax):AV:=(Z23 (lI x1 x2) x3.2.2.2.1 a7)
def Q82(x1:Bool)(x2:Bool)(x3:CE)(a3:TFunc):AV:=(Z23 (lI x1 x2) x3.2.1.Params a3.Params)
def Q81(x1:Bool)(x2:Bool)(x3:CE)(a3:TFunc):AV:=(Z61 (lI x1 x2) x3.2.1.Blocks a3.Blocks)
def Jz(a3:TFunc)(a5:Int)(a7:Ax)(aB:List Bj):Option nE:=
 (Pb a3.Params).bind λx1=>(bif x1==true then Lg a3.Ret else some false).bind λx2=>(bif (bif x1 then x2 else false)==true then Jy a3.Blocks a3 a5 a7 aB else some (false,default,0,[],[])).bind λx3=>(Nq (bif bif x1 then x2 else false then x3.1 else false) 6).bind λx4=>some (x4,⟨bif (bif x1 then x2 else false)==true then x3.2.1.Params else a3.Params,bif (bif x1 then x2 else false)==true then x3.2.1.Ret else a3.Ret,bif (bif x1 then x2 else false)==true then x3.2.1.Blocks else a3.Blocks⟩,bif (bif x1 then x2 else false)==true then x3.2.2.1 else a5,bif (bif x1 then x2 else false)==true then x3.2.2.2.1 else a7,bif (bif x1 then x2 else false)==true then x3.2.2.2.2 else aB)
theorem X4(h:Jz v0 v1 v2 v12=some v13):sP 106 OX (Z3 v0.Params v0.Ret v0.Blocks v1 v2 v12 v12.length) (Z5 v13.1) (Z3 v13.2.1.Params v13.2.1.Ret v13.2.1.Blocks v13.2.2.1 v13.2.2.2.1 v13.2.2.2.2 v13.2.2.2.2.length):=
 sG Tryz.func106 λΓ q=>Af q [0] I6 (tB h λx1 y1 h=>tB h λx2 y2 h=>tB h λx3 y3 h=>tT q [3] I6 [(Z2 x1),(Z2 x2),(Z66 x3.1 x3.2.1.Params x3.2.1.Ret x3.2.1.Blocks x3.2.2.1 x3.2.2.2.1 x3.2.2.2.2 x3.2.2.2.2.length)] (ci (JU y1) (ww (x1==true) (fq (λ(hg:(x1==true)=true)=>(N4 (A9 hg y2))) (Ml x1) (gI7 (lI x1 x2) (c2 (λ(hg:(lI x1 x2)=true)=>(X3 (A9 hg y3))) (Ml (bif x1 then x2 else false))))))) (gLe (Le.trans (leB (λg_ u=>(Cm u [] [(30000,.row 102 [(Q82 x1 x2 x3 v0),(u0 (lI x1 x2) x3.2.1.Ret v0.Ret),(Q81 x1 x2 x3 v0),(u0 (lI x1 x2) x3.2.2.1 v1),(Q83 x1 x2 x3 v2),.nilm,(Z37 g_ x3.2.2.2.2 v12)]),(37006,.tok 5 211 (bif g_ then x3.2.2.2.2.length else v12.length))])) (λg_ u=>(Cm u [] [(30000,.row 102 [(Q82 x1 x2 x3 v0),(u0 (lI x1 x2) x3.2.1.Ret v0.Ret),(Q81 x1 x2 x3 v0),(u0 (lI x1 x2) x3.2.2.1 v1),(Q83 x1 x2 x3 v2),.nilm,(AV.list 5 Om default (bif g_ then x3.2.2.2.2 else v12) (.own 37006))]),(37006,.tok 5 211 ((bif g_ then x3.2.2.2.2 else v12).length))])) (lI x1 x2)) (Le.trans (td 30000 0 (show AVle (Q82 x1 x2 x3 v0) (AV.list 1 Aq 0 (bif (lI x1 x2) then x3.2.1.Params else v0.Params) .none) from Ke)) (Le.trans (td 30000 2 (show AVle (Q81 x1 x2 x3 v0) (AV.list 5 Cg default (bif (lI x1 x2) then x3.2.1.Blocks else v0.Blocks) .none) from Ke)) (td 30000 4 (show AVle (Q83 x1 x2 x3 v2) (AV.list 1 Aq 0 (bif (lI x1 x2) then x3.2.2.2.1 else v2) .none) from Ke))))) (tB h λx4 y4 h=>tT q [2] I6 [(IX x4)] (c1 (Y1 y4)) (tS h (Ca Zd)))))
def Es(aI:Int):Option J8:=
 some (aI,1)
theorem Mt(h:Es v1=some v19):sP 159 [(Z5 v1)] [] (.agg (Bp v19)) []:=
 sG Tryz.func159 λΓ q=>tW q [0,2] [2] [2] [2] (tS h (Ca []))
def xY:=(λ(v_:Ay)=>((Xj v_):AV))
abbrev Re:=(Int×Ay)
abbrev eh:=(Bool×TFunc×Int×Ax×List Bj×List (Int×Ay))
def Gv(aH:Int)(aa6:J8)(aL:Qd)(a3:TFunc)(a5:Int)(a7:Ax)(aC:List Re)(aB:List Bj):Option eh:=
 bif bif bif D9 aC aH then true else decide (aH<1) then true else decide (1023<aH) then some (false,a3,a5,a7,aB,aC) else some (true,a3,a5,a7,aB,Jq aC aH ⟨aa6,aL⟩)
variable{v24:Qd}{v25:List Re}{v26:eh}
abbrev mn:=(Int×AV)
theorem Pw(h:Gv v1 v19 v24 v0 v11 v2 v25 v12=some v26):sP 203 [(.ptr 30000 0),(Z5 v1),(.agg (Bp v19)),(.agg (OE v24))] [(Z1 v0.Params v0.Ret v0.Blocks v11 v2 9100005 v12),(Ln 37006 211 v12.length),(9100005,.obj (.map true .i64 (Bt (λ(v_:Ay)=>((Xj v_):AV)) v25)))] (.bool v26.1) [(Z1 v26.2.1.Params v26.2.1.Ret v26.2.1.Blocks v26.2.2.1 v26.2.2.2.1 9100005 v26.2.2.2.2.1),(Ln 37006 211 v26.2.2.2.2.1.length),(9100005,.obj (.map true .i64 (Bt (λ(v_:Ay)=>((Xj v_):AV)) v26.2.2.2.2.2)))]:=
 sG Tryz.func203 λΓ q=>Af q TV ka (gR q [0,1,6,7,10] ka [(17,(.tuple [(uz v25 v1),(.bool (D9 v25 v1))]))] [] (c1 (show(AVle (.tuple [Fu (.agg [L9,L9,L9,L9]) (Bt xY v25) v1,.bool (D9 (Bt xY v25) v1)]) (.tuple [(uz v25 v1),(.bool (D9 v25 v1))])) from(QZ (f:=xY) (l:=v25) (AVle.refl _) rfl))) (tU q [0,1,6,7,28] ka (c4 (gI ((D9 v25 v1)==false)) (L5 (D9 v25 v1)) (gI ((bif (D9 v25 v1) then true else(decide (v1<1)))==false)) (L5 (bif (D9 v25 v1) then true else(decide (v1<1))))) (gC h (λh=>Af q [8] Iz (tS h (Ca EA))) λh=>Af q [] Iz (gLe (Sc (λ(k_:List mn) u=>Cm u [] [(UY 9100005 k_)]) (show(Jq (Bt xY v25) v1 (.agg [(Z5 v19.1),(Z5 v19.2),(Z5 v24.block),(Z5 v24.at_)]))=(Bt xY (Jq v25 v1 (⟨v19,v24⟩:Ay))) from(bD (f:=xY) (l:=v25) (v:=(⟨v19,v24⟩:Ay)) rfl rfl))) (Af q [8] Iz (tS h (Ca EA)))))))
def Qs(a1:TOp):Option J8:=
 (Ru a1).bind λx1=>bif !x1 then some (0,0) else(Qw a1).bind λx2=>some (x2.1,x2.2)
theorem VQ(h:Qs v6=some v19):sP 204 [(WD v6)] [] (.tuple [(Z5 v19.1),(Z5 v19.2)]) []:=
 sG Tryz.func204 λΓ q=>Af q [1] [1] (tB h λx1 y1 h=>tT q [1,6] [1] [(Z2 x1)] (c1 (BJ y1)) (gC h (λh=>Af q Cy [] (tS h (Ca []))) λh=>tB h λx2 y2 h=>tT q Cy [] [(Z93 x2.1 x2.2)] (c1 (EL y2)) (tS h (Ca []))))
set_option maxRecDepth 100000
set_option maxHeartbeats 2000000
abbrev zy:=(Int×Ax×Int×List Ae×Int×Ax×List Bj×List (Int×Ay))
abbrev z6:=(LR (Int×Ax×Int×List Ae×Int×Ax×List Bj×List (Int×Ay)) ((Ax×Int×List Ae×Int×Ax×List Bj×List (Int×Ay)) ⊕ (Bool×TFunc×Int×Ax×List Bj×List (Int×Ay))))
def Dy(aa3:Int)(aM:Ae):zy->Option z6:=
 λ(i1,l2,i3,l4,i5,l6,l7,l8)=>bif decide (i1<aM.Phis.length) then Az (A1 i1 aM.Phis.length) ((Es (aM.Phis.getD i1.toNat default).Bits).bind λx17=>(Gv (aM.Phis.getD i1.toNat default).Dst x17 ⟨aa3,-1⟩ ⟨l2,i3,l4⟩ i5 l6 l8 l7).bind λx18=>bif !x18.1 then some (.done (.inr (false,x18.2.1,x18.2.2.1,x18.2.2.2.1,x18.2.2.2.2.1,x18.2.2.2.2.2))) else some (.next (w64 (i1+1),x18.2.1.Params,x18.2.1.Ret,x18.2.1.Blocks,x18.2.2.1,x18.2.2.2.1,x18.2.2.2.2.1,x18.2.2.2.2.2))) else some (.done (.inl (l2,i3,l4,i5,l6,l7,l8)))
def Cp(aa3:Int)(aM:Ae):zy->Option z6:=
 λ(i21,l22,i23,l24,i25,l26,l27,l28)=>bif decide (i21<aM.Ops.length) then Az (A1 i21 aM.Ops.length) ((Qs (aM.Ops.getD i21.toNat default)).bind λx37=>(bif decide (0<x37.1)==true then Gv (aM.Ops.getD i21.toNat default).Dst (x37.1,x37.2) ⟨aa3,i21⟩ ⟨l22,i23,l24⟩ i25 l26 l28 l27 else some (false,default,0,[],[],[])).bind λx38=>bif bif decide (0<x37.1) then !x38.1 else false then some (.done (.inr (false,⟨bif decide (0<x37.1)==true then x38.2.1.Params else l22,bif decide (0<x37.1)==true then x38.2.1.Ret else i23,bif decide (0<x37.1)==true then x38.2.1.Blocks else l24⟩,bif decide (0<x37.1)==true then x38.2.2.1 else i25,bif decide (0<x37.1)==true then x38.2.2.2.1 else l26,bif decide (0<x37.1)==true then x38.2.2.2.2.1 else l27,bif decide (0<x37.1)==true then x38.2.2.2.2.2 else l28))) else some (.next (w64 (i21+1),bif decide (0<x37.1)==true then x38.2.1.Params else l22,bif decide (0<x37.1)==true then x38.2.1.Ret else i23,bif decide (0<x37.1)==true then x38.2.1.Blocks else l24,bif decide (0<x37.1)==true then x38.2.2.1 else i25,bif decide (0<x37.1)==true then x38.2.2.2.1 else l26,bif decide (0<x37.1)==true then x38.2.2.2.2.1 else l27,bif decide (0<x37.1)==true then x38.2.2.2.2.2 else l28))) else some (.done (.inl (l22,i23,l24,i25,l26,l27,l28)))
def Ol(Γ:H6)(aa3:Int)(aM:Ae)(a3:TFunc)(a5:Int)(a7:Ax)(aC:List Re)(aB:List Bj)(r:eh):Exit->St->Prop:=fK Tryz.prog Γ Tryz.f160.results.toList [(Z1 a3.Params a3.Ret a3.Blocks a5 a7 9100005 aB),(Ln 37006 211 aB.length),(9100005,.obj (.map true .i64 (Bt (λ(v_:Ay)=>((Xj v_):AV)) aC)))] (.bool r.1) [(Z1 r.2.1.Params r.2.1.Ret r.2.1.Blocks r.2.2.1 r.2.2.2.1 9100005 r.2.2.2.2.1),(Ln 37006 211 r.2.2.2.2.1.length),(9100005,.obj (.map true .i64 (Bt (λ(v_:Ay)=>((Xj v_):AV)) r.2.2.2.2.2)))]
def e9(x37:J8):=((decide ((0:Int)<x37.1))==true)
def se:=(λ(v_:Ay)=>((Xj v_):AV))
def Q89(x37:J8)(x38:eh)(l26:Ax):AV:=(Z23 (e9 x37) x38.2.2.2.1 l26)
def Q90(x37:J8)(x38:eh)(l24:List Ae):AV:=(Z61 (e9 x37) x38.2.1.Blocks l24)
def Q88(x37:J8)(x38:eh)(l22:Ax):AV:=(Z23 (e9 x37) x38.2.1.Params l22)
def Hi(aa3:Int)(aM:Ae)(a3:TFunc)(a5:Int)(a7:Ax)(aC:List Re)(aB:List Bj):Option eh:=
 (Ac   (Dy aa3 aM) (0,a3.Params,a3.Ret,a3.Blocks,a5,a7,aB,aC)).bind λx19=>match x19 with | .inl (l9,i10,l11,i12,l13,l14,l15)=>(Ac   (Cp aa3 aM) (0,l9,i10,l11,i12,l13,l14,l15)).bind λx39=>(match x39 with | .inl (l29,i30,l31,i32,l33,l34,l35)=>some (true,⟨l29,i30,l31⟩,i32,l33,l34,l35) | .inr r41=>some r41) | .inr r42=>some r42
theorem T4(h:Hi v1 v9 v0 v11 v2 v25 v12=some v26):sP 160 [(.ptr 30000 0),(Z5 v1),(.agg (Cg v9))] [(Z1 v0.Params v0.Ret v0.Blocks v11 v2 9100005 v12),(Ln 37006 211 v12.length),(9100005,.obj (.map true .i64 (Bt (λ(v_:Ay)=>((Xj v_):AV)) v25)))] (.bool v26.1) [(Z1 v26.2.1.Params v26.2.1.Ret v26.2.1.Blocks v26.2.2.1 v26.2.2.2.1 9100005 v26.2.2.2.2.1),(Ln 37006 211 v26.2.2.2.2.1.length),(9100005,.obj (.map true .i64 (Bt (λ(v_:Ay)=>((Xj v_):AV)) v26.2.2.2.2.2)))]:=
 sG Tryz.func160 λΓ q=>tW q Nh MT iW MT (tL q h iW MT (λu (i1,l2,i3,l4,i5,l6,l7,l8)=>(Cm u [(16,(Z5 i1))] [(Z1 l2 i3 l4 i5 l6 9100005 l7),(Ln 37006 211 l7.length),(9100005,.obj (.map true .i64 (Bt se l8)))])) (λu x_=>match x_ with|(.inl (l9,i10,l11,i12,l13,l14,l15))=>aG Γ (.exit 0) (Nb Nh MT u [] [(Z1 l9 i10 l11 i12 l13 9100005 l14),(Ln 37006 211 l14.length),(9100005,.obj (.map true .i64 (Bt se l15)))])|(.inr r_)=>aR (Ol Γ v1 v9 v0 v11 v2 v25 v12 r_)) (λ⟨i1,l2,i3,l4,i5,l6,l7,l8⟩ y h=>Af q [0,1,5,14,15,16,17] MT (gC h (λh=>tV q [0,1,5,8,14,15,16] [5,8,30000,37006,9100005] h λh=>tB h λx17 y17 h=>tB h λx18 y18 h=>tT q [0,1,5,14,15,16,29] MT [(yr x17),⟨EA,[],(.bool x18.1),[(Z1 x18.2.1.Params x18.2.1.Ret x18.2.1.Blocks x18.2.2.1 x18.2.2.2.1 9100005 x18.2.2.2.2.1),(Ln 37006 211 x18.2.2.2.2.1.length),(9100005,.obj (.map true .i64 (Bt se x18.2.2.2.2.2)))],[],[]⟩] (c2 (Mt y17) (Pw y18)) (gC h (λh=>Af q [6] Iz (tS h (gO (Lo (H7 EA (Le.refl _ _)))))) λh=>Af q iW MT (tN h))) λh=>tS h (gO (Be (Bg Nh MT q))))) λx19 h=>(match x19,h with | .inl ⟨l9,i10,l11,i12,l13,l14,l15⟩,h=>gA (Af q ib Iz (tL q h ib Iz (λu (i21,l22,i23,l24,i25,l26,l27,l28)=>(Cm u [(34,(Z5 i21))] [(Z1 l22 i23 l24 i25 l26 9100005 l27),(Ln 37006 211 l27.length),(9100005,.obj (.map true .i64 (Bt se l28)))])) (λu x_=>match x_ with|(.inl (l29,i30,l31,i32,l33,l34,l35))=>aG Γ (.exit 2) (⟨[],[(Z1 l29 i30 l31 i32 l33 9100005 l34),(Ln 37006 211 l34.length),(9100005,.obj (.map true .i64 (Bt se l35)))],[]⟩:St)|(.inr r_)=>aR (Ol Γ v1 v9 v0 v11 v2 v25 v12 r_)) (λ⟨i21,l22,i23,l24,i25,l26,l27,l28⟩ y h=>Af q [0,1,32,33,34,35] Iz (gC h (λh=>tV q [0,1,9,10,32,33,34] rK h λh=>tB h λx37 y37 h=>tT q [0,1,9,10,11,12,32,33,34] rK [(Z93 x37.1 x37.2)] (c1 (VQ y37)) (tB h λx38 y38 h=>tT q [0,1,32,33,34,58] Iz [⟨EA,[],(.bool x38.1),[(Z1 x38.2.1.Params x38.2.1.Ret x38.2.1.Blocks x38.2.2.1 x38.2.2.2.1 9100005 x38.2.2.2.2.1),(Ln 37006 211 x38.2.2.2.2.1.length),(9100005,.obj (.map true .i64 (Bt se x38.2.2.2.2.2)))],[],[]⟩] (gI9 (e9 x37) (c3 (λ(hg:(e9 x37)=true)=>(Pw (A9 hg y38))) (gI (e9 x37)) (Ml (decide ((0:Int)<x37.1))))) (gLe (Le.trans (Sc (λ(k_:List mn) u=>Cm u [] [(UY 9100005 k_)]) (show(bif (e9 x37) then(Bt se x38.2.2.2.2.2) else(Bt se l28))=(Bt se (bif (e9 x37) then x38.2.2.2.2.2 else l28)) from(oY rfl rfl))) (Le.trans (leB (λg_ u=>(Cm u [] [(30000,.row 102 [(Q88 x37 x38 l22),(u0 (e9 x37) x38.2.1.Ret i23),(Q90 x37 x38 l24),(u0 (e9 x37) x38.2.2.1 i25),(Q89 x37 x38 l26),(.omap 9100005),(Z37 g_ x38.2.2.2.2.1 l27)]),(37006,.tok 5 211 (bif g_ then x38.2.2.2.2.1.length else l27.length))])) (λg_ u=>(Cm u [] [(30000,.row 102 [(Q88 x37 x38 l22),(u0 (e9 x37) x38.2.1.Ret i23),(Q90 x37 x38 l24),(u0 (e9 x37) x38.2.2.1 i25),(Q89 x37 x38 l26),(.omap 9100005),(AV.list 5 Om default (bif g_ then x38.2.2.2.2.1 else l27) (.own 37006))]),(37006,.tok 5 211 ((bif g_ then x38.2.2.2.2.1 else l27).length))])) (e9 x37)) (Le.trans (td 30000 0 (show AVle (Q88 x37 x38 l22) (AV.list 1 Aq 0 (bif (e9 x37) then x38.2.1.Params else l22) .none) from Ke)) (Le.trans (td 30000 2 (show AVle (Q90 x37 x38 l24) (AV.list 5 Cg default (bif (e9 x37) then x38.2.1.Blocks else l24) .none) from Ke)) (td 30000 4 (show AVle (Q89 x37 x38 l26) (AV.list 1 Aq 0 (bif (e9 x37) then x38.2.2.2.1 else l26) .none) from Ke)))))) (gC h (λh=>Af q [6] Iz (tS h (gO (Lo (H7 EA (Le.refl _ _)))))) λh=>Af q ib Iz (tN h))))) λh=>tS h (gO (Be (Bg [] Iz q))))) λx39 h=>(match x39,h with | .inl ⟨l29,i30,l31,i32,l33,l34,l35⟩,h=>gA (Af q [6] Iz (tS h (Ca EA))) | .inr r41,h=>O3 (λst' hk=>tS h (gK hk))))) | .inr r42,h=>O3 (λst' hk=>tS h (gK hk))))
def Gw(a3:TFunc):(Int×List (Int×Ay))->Option (LR (Int×List (Int×Ay)) (List (Int×Ay))):=
 λ(i1,l2)=>bif decide (i1<a3.Params.length) then Az (A1 i1 a3.Params.length) ((Es (a3.Params.getD i1.toNat 0)).bind λx5=>some (.next (w64 (i1+1),Jq l2 (w64 (i1+1)) ⟨x5,⟨0,-1⟩⟩))) else some (.done l2)
def Er(a3:TFunc):(Int×List (Int×Ay)×Ax×Int×List Ae×Int×Ax×List Bj)->Option (LR (Int×List (Int×Ay)×Ax×Int×List Ae×Int×Ax×List Bj) ((List (Int×Ay)×Ax×Int×List Ae×Int×Ax×List Bj) ⊕ (Int×TFunc×Int×Ax×List Bj×List (Int×Ay)))):=
 λ(i8,l9,l10,i11,l12,i13,l14,l15)=>bif decide (i8<a3.Blocks.length) then Az (A1 i8 a3.Blocks.length) ((Hi i8 (a3.Blocks.getD i8.toNat default) ⟨l10,i11,l12⟩ i13 l14 l9 l15).bind λx24=>bif !x24.1 then some (.done (.inr (7,x24.2.1,x24.2.2.1,x24.2.2.2.1,x24.2.2.2.2.1,x24.2.2.2.2.2))) else some (.next (w64 (i8+1),x24.2.2.2.2.2,x24.2.1.Params,x24.2.1.Ret,x24.2.1.Blocks,x24.2.2.1,x24.2.2.2.1,x24.2.2.2.2.1))) else some (.done (.inl (l9,l10,i11,l12,i13,l14,l15)))
abbrev uj:=(Int×TFunc×Int×Ax×List Bj×List (Int×Ay))
def Wc(Γ:H6)(a3:TFunc)(a5:Int)(a7:Ax)(aB:List Bj)(r:uj):Exit->St->Prop:=fK Tryz.prog Γ Tryz.f107.results.toList (Z3 a3.Params a3.Ret a3.Blocks a5 a7 aB aB.length) (Z5 r.1) [(Z1 r.2.1.Params r.2.1.Ret r.2.1.Blocks r.2.2.1 r.2.2.2.1 9200005 r.2.2.2.2.1),(Ln 37006 211 r.2.2.2.2.1.length),(9200005,.obj (.map false .i64 (Bt (λ(v_:Ay)=>((Xj v_):AV)) r.2.2.2.2.2)))]
def jF:=(λ(v_:Ay)=>((Xj v_):AV))
def Q92(l16:List Re)(l17:Ax)(i18:Int)(l19:List Ae)(i20:Int)(l21:Ax)(l22:List Bj):List NR:=[(8,.obj (.map true .i64 (Bt jF l16))),(yj l17 i18 l19 i20 l21 l22),(Ln 37006 211 l22.length)]
def Ic(a3:TFunc)(a5:Int)(a7:Ax)(aB:List Bj):Option uj:=
 (Ac   (Gw a3) (0,[])).bind λx6=>(Ac   (Er a3) (0,x6,a3.Params,a3.Ret,a3.Blocks,a5,a7,aB)).bind λx25=>match x25 with | .inl (l16,l17,i18,l19,i20,l21,l22)=>some (0,⟨l17,i18,l19⟩,i20,l21,l22,l16) | .inr r27=>some r27
variable{v27:uj}
theorem Vx(h:Ic v0 v1 v2 v12=some v27):sP 107 OX (Z3 v0.Params v0.Ret v0.Blocks v1 v2 v12 v12.length) (Z5 v27.1) [(Z1 v27.2.1.Params v27.2.1.Ret v27.2.1.Blocks v27.2.2.1 v27.2.2.2.1 9200005 v27.2.2.2.2.1),(Ln 37006 211 v27.2.2.2.2.1.length),(9200005,.obj (.map false .i64 (Bt (λ(v_:Ay)=>((Xj v_):AV)) v27.2.2.2.2.2)))]:=
 sG Tryz.func107 λΓ q=>tW q [0] I6 [0] Rb (gLe (Sc (λ(k_:List mn) u=>Cm u [] [(8,.obj (.map true .i64 k_))]) (show[]=(Bt jF ([]:List Re)) from rfl)) (Af q bp Rb (tL q h bp Rb (λu (i1,l2)=>(Cm u [(17,(Z5 i1))] [(8,.obj (.map true .i64 (Bt jF l2)))])) (λu l3=>aG Γ (.exit 0) (Nb [0] Rb u [] [(8,.obj (.map true .i64 (Bt jF l3)))])) (λ⟨i1,l2⟩ y h=>Af q [0,15,16,17,18] Rb (gC h (λh=>tV q [0,3,4,15,16,17] Rb h λh=>tB h λx5 y5 h=>tT q bp Rb [(yr x5)] (c1 (Mt y5)) (gLe (Sc (λ(k_:List mn) u=>Cm u [] [(8,.obj (.map true .i64 k_))]) (show(Jq (Bt jF l2) (w64 (i1+1)) (.agg [(Z5 x5.1),(Z5 x5.2),L9,(.int .i64 (-1:Int))]))=(Bt jF (Jq l2 (w64 (i1+1)) (⟨x5,(⟨(0:Int),(-1:Int)⟩:Qd)⟩:Ay))) from(bD (f:=jF) (l:=l2) (v:=(⟨x5,(⟨(0:Int),(-1:Int)⟩:Qd)⟩:Ay)) rfl rfl))) (Af q bp Rb (tN h)))) λh=>tS h (gO (Be (Bg [0] Rb q))))) λx6 h=>gA (Af q ip Rb (tL q h ip Rb (λu (i8,l9,l10,i11,l12,i13,l14,l15)=>(Cm u [(39,(Z5 i8))] [(8,.obj (.map true .i64 (Bt jF l9))),(yj l10 i11 l12 i13 l14 l15),(Ln 37006 211 l15.length)])) (λu x_=>match x_ with|(.inl (l16,l17,i18,l19,i20,l21,l22))=>aG Γ (.exit 2) (⟨[],(Q92 l16 l17 i18 l19 i20 l21 l22),[]⟩:St)|(.inr r_)=>aR (Wc Γ v0 v1 v2 v12 r_)) (λ⟨i8,l9,l10,i11,l12,i13,l14,l15⟩ y h=>Af q [0,37,38,39,40] Rb (gC h (λh=>tV q [0,5,6,37,38,39] [6,8,30000,37006] h λh=>tB h λx24 y24 h=>tT q [0,37,38,39,48] Rb [⟨[(30000,30000),(37006,37006),(8,9100005)],[],(.bool x24.1),[(Z1 x24.2.1.Params x24.2.1.Ret x24.2.1.Blocks x24.2.2.1 x24.2.2.2.1 9100005 x24.2.2.2.2.1),(Ln 37006 211 x24.2.2.2.2.1.length),(9100005,.obj (.map true .i64 (Bt jF x24.2.2.2.2.2)))],[],[]⟩] (c1 (T4 y24)) (gC h (λh=>Af q [2] Rb (Qa (⟨[(2,(.int .i64 (7:Int)))],[(8,.obj (.map true .i64 (Bt jF x24.2.2.2.2.2))),(yj x24.2.1.Params x24.2.1.Ret x24.2.1.Blocks x24.2.2.1 x24.2.2.2.1 x24.2.2.2.2.1),(Ln 37006 211 x24.2.2.2.2.1.length)],[]⟩:St) (tS h (gO (Lo (H7 rB (Le.trans (gV (nm:=8) (.map false .i64 (Bt jF x24.2.2.2.2.2)) rfl (λ_ _ _ _ h_=>RD h_)) (Bg (st':=⟨[(2,(.int .i64 (7:Int)))],[(8,.obj (.map false .i64 (Bt jF x24.2.2.2.2.2))),(yj x24.2.1.Params x24.2.1.Ret x24.2.1.Blocks x24.2.2.1 x24.2.2.2.1 x24.2.2.2.2.1),(Ln 37006 211 x24.2.2.2.2.1.length)],[]⟩) [2] Rb q)))))))) λh=>Af q ip Rb (tN h))) λh=>tS h (gO (Be (Bg [] Rb q))))) λx25 h=>(match x25,h with | .inl ⟨l16,l17,i18,l19,i20,l21,l22⟩,h=>gA (Af q [2] Rb (Qa (⟨[(2,L9)],(Q92 l16 l17 i18 l19 i20 l21 l22),[]⟩:St) (tS h (gK (e:=.ret) (H7 rB (Le.trans (gV (nm:=8) (.map false .i64 (Bt jF l16)) rfl (λ_ _ _ _ h_=>RD h_)) (Bg (st':=⟨[(2,L9)],[(8,.obj (.map false .i64 (Bt jF l16))),(yj l17 i18 l19 i20 l21 l22),(Ln 37006 211 l22.length)],[]⟩) [2] Rb q))))))) | .inr r27,h=>O3 (λst' hk=>tS h (gK hk))))))))
abbrev z7:=(Qd×TFunc×Int×Ax×List Bj)
def G8(aa3:Int)(a3:TFunc)(a5:Int)(a7:Ax)(aC:List Re)(aB:List Bj):Option z7:=
 Az (A1 aa3 a3.Blocks.length) (some (⟨aa3,(a3.Blocks.getD aa3.toNat default).Ops.length⟩,a3,a5,a7,aB))
variable{v28:z7}
theorem Ny(h:G8 v1 v0 v11 v2 v25 v12=some v28):sP 206 [(.ptr 30000 0),(Z5 v1)] [(Z1 v0.Params v0.Ret v0.Blocks v11 v2 9100005 v12),(Ln 37006 211 v12.length),(9100005,.obj (.map false .i64 (Bt (λ(v_:Ay)=>((Xj v_):AV)) v25)))] (.agg (OE v28.1)) [(Z1 v28.2.1.Params v28.2.1.Ret v28.2.1.Blocks v28.2.2.1 v28.2.2.2.1 9100005 v28.2.2.2.2),(Ln 37006 211 v28.2.2.2.2.length),(9100005,.obj (.map false .i64 (Bt (λ(v_:Ay)=>((Xj v_):AV)) v25)))]:=
 sG Tryz.func206 λΓ q=>Af q [0,1,4] rM (tV q [4] rM h λh=>tS h (Ca EA))
abbrev uk:=(TFunc×Int×Ax×List Bj)
def E8(aH:Int)(aa6:J8)(aL:Qd)(a3:TFunc)(a5:Int)(a7:Ax)(aC:List Re)(aB:List Bj):Option uk:=
 Az (aB.length+[(⟨aH,aa6,aL⟩:Bj)].length<=room) (some (a3,a5,a7,aB++[⟨aH,aa6,aL⟩]))
variable{v29:uk}
theorem K5(h:E8 v1 v19 v24 v0 v11 v2 v25 v12=some v29):sP 205 [(.ptr 30000 0),(Z5 v1),(.agg (Bp v19)),(.agg (OE v24))] [(Z1 v0.Params v0.Ret v0.Blocks v11 v2 9100005 v12),(Ln 37006 211 v12.length),(9100005,.obj (.map false .i64 (Bt (λ(v_:Ay)=>((Xj v_):AV)) v25)))] (.tuple []) [(Z1 v29.1.Params v29.1.Ret v29.1.Blocks v29.2.1 v29.2.2.1 9100005 v29.2.2.2),(Ln 37006 211 v29.2.2.2.length),(9100005,.obj (.map false .i64 (Bt (λ(v_:Ay)=>((Xj v_):AV)) v25)))]:=
 sG Tryz.func205 λΓ q=>Af q TV ka (tC h λc1_ h=>gR q [] Iz [(17,(AV.list 5 Om default ([(⟨v1,v19,v24⟩:Bj)]:List Bj) .exact)),(18,(AV.list 5 Om default (v12++([(⟨v1,v19,v24⟩:Bj)]:List Bj)) (.own 37006)))] [] (c5 (Bq 5 Om (default:Bj) ([(⟨v1,v19,v24⟩:Bj)]:List Bj)) (Eq.refl v12.length) c1_ (I7 5 37006 Om (default:Bj) v12 ([(⟨v1,v19,v24⟩:Bj)]:List Bj)) (E0 v12 ([(⟨v1,v19,v24⟩:Bj)]:List Bj))) (tS h (gK (e:=.normal) (H7 EA (Le.refl _ _)))))
def Q93:List MQ:=[(2,ym)]
def Qt(a1:TOp):Option qy:=
 (Ru a1).bind λx1=>bif !x1 then some [] else(Qy a1).bind λx2=>some x2
theorem VS(h:Qt v6=some v21):sP 207 [(WD v6)] [] (Z7 v21) []:=
 sG Tryz.func207 λΓ q=>gR q [1] [1] Q93 [] (c1 (Bz 2 Bp ((0:Int),(0:Int)))) (tB h λx1 y1 h=>tT q [1,5] [1] [(Z2 x1)] (c1 (BJ y1)) (gC h (λh=>gR q [2] [] Q93 [] (c1 (Bz 2 Bp ((0:Int),(0:Int)))) (Qa (⟨Q93,[],[]⟩:St) (tS h (gK (e:=.ret) (H7 [] (show Le Γ _ (⟨[(2,(AV.list 2 Bp ((0:Int),(0:Int)) ([]:List J8) .none))],[],[]⟩:St) from Le.trans (Bg (st':=⟨Q93,[],[]⟩) [2] [] q) (Jc (.cons AVle.untag .nil) .nil))))))) λh=>tB h λx2 y2 h=>tT q [2] [] [(lM x2)] (c1 (EM y2)) (tS h (Ca []))))
abbrev qz:=(LR (Int×Ax×Int×List Ae×Int×Ax×List Bj) (Ax×Int×List Ae×Int×Ax×List Bj))
def El(a3:TFunc)(aC:List Re)(i1:Int)(i21:Int):KL->Option qz:=
 λ(i35,l36,i37,l38,i39,l40,l41)=>bif decide (i35<((a3.Blocks.getD i1.toNat default).Phis.getD i21.toNat default).Args.length) then Az (A1 i35 ((a3.Blocks.getD i1.toNat default).Phis.getD i21.toNat default).Args.length) ((Es ((a3.Blocks.getD i1.toNat default).Phis.getD i21.toNat default).Bits).bind λx49=>Az (A1 i35 ((a3.Blocks.getD i1.toNat default).Phis.getD i21.toNat default).From.length) ((G8 (((a3.Blocks.getD i1.toNat default).Phis.getD i21.toNat default).From.getD i35.toNat 0) ⟨l36,i37,l38⟩ i39 l40 aC l41).bind λx51=>(E8 (((a3.Blocks.getD i1.toNat default).Phis.getD i21.toNat default).Args.getD i35.toNat 0) x49 x51.1 x51.2.1 x51.2.2.1 x51.2.2.2.1 aC x51.2.2.2.2).bind λx52=>some (.next (w64 (i35+1),x52.1.Params,x52.1.Ret,x52.1.Blocks,x52.2.1,x52.2.2.1,x52.2.2.2)))) else some (.done (l36,i37,l38,i39,l40,l41))
def Em(a3:TFunc)(aC:List Re)(i1:Int):KL->Option qz:=
 λ(i21,l22,i23,l24,i25,l26,l27)=>bif decide (i21<(a3.Blocks.getD i1.toNat default).Phis.length) then Az (A1 i21 (a3.Blocks.getD i1.toNat default).Phis.length) ((Ac   (El a3 aC i1 i21) (0,l22,i23,l24,i25,l26,l27)).bind λx53=>match x53 with|(l42,i43,l44,i45,l46,l47)=>some (.next (w64 (i21+1),l42,i43,l44,i45,l46,l47))) else some (.done (l22,i23,l24,i25,l26,l27))
def En(a3:TFunc)(aC:List Re)(i1:Int)(i57:Int)(x71:List KK):KL->Option qz:=
 λ(i72,l73,i74,l75,i76,l77,l78)=>bif decide (i72<x71.length) then Az (A1 i72 x71.length) (Az (A1 i72 ((a3.Blocks.getD i1.toNat default).Ops.getD i57.toNat default).Args.length) ((E8 (((a3.Blocks.getD i1.toNat default).Ops.getD i57.toNat default).Args.getD i72.toNat 0) (x71.getD i72.toNat (0,0)) ⟨i1,i57⟩ ⟨l73,i74,l75⟩ i76 l77 aC l78).bind λx87=>some (.next (w64 (i72+1),x87.1.Params,x87.1.Ret,x87.1.Blocks,x87.2.1,x87.2.2.1,x87.2.2.2)))) else some (.done (l73,i74,l75,i76,l77,l78))
def Eo(a3:TFunc)(aC:List Re)(i1:Int):KL->Option qz:=
 λ(i57,l58,i59,l60,i61,l62,l63)=>bif decide (i57<(a3.Blocks.getD i1.toNat default).Ops.length) then Az (A1 i57 (a3.Blocks.getD i1.toNat default).Ops.length) ((Qt ((a3.Blocks.getD i1.toNat default).Ops.getD i57.toNat default)).bind λx71=>(Ac   (En a3 aC i1 i57 x71) (0,l58,i59,l60,i61,l62,l63)).bind λx88=>match x88 with|(l79,i80,l81,i82,l83,l84)=>some (.next (w64 (i57+1),l79,i80,l81,i82,l83,l84))) else some (.done (l58,i59,l60,i61,l62,l63))
def Ep(a3:TFunc)(aC:List Re):KL->Option qz:=
 λ(i1,l2,i3,l4,i5,l6,l7)=>bif decide (i1<a3.Blocks.length) then Option.bind  (Az (A1 i1 a3.Blocks.length) ((Ac   (Em a3 aC i1) (0,l2,i3,l4,i5,l6,l7)).bind λx55=>match x55 with|(l28,i29,l30,i31,l32,l33)=>(Ac   (Eo a3 aC i1) (0,l28,i29,l30,i31,l32,l33)).bind λx90=>match x90 with|(l64,i65,l66,i67,l68,l69)=>bif (a3.Blocks.getD i1.toNat default).End.Kind==0 then(Es i65).bind λx92=>(G8 i1 ⟨l64,i65,l66⟩ i67 l68 aC l69).bind λx93=>(E8 (a3.Blocks.getD i1.toNat default).End.Arg x92 x93.1 x93.2.1 x93.2.2.1 x93.2.2.2.1 aC x93.2.2.2.2).bind λx94=>some (x94.1.Params,x94.1.Ret,x94.1.Blocks,x94.2.1,x94.2.2.1,x94.2.2.2) else bif (a3.Blocks.getD i1.toNat default).End.Kind==2 then(Es 1).bind λx95=>(G8 i1 ⟨l64,i65,l66⟩ i67 l68 aC l69).bind λx96=>(E8 (a3.Blocks.getD i1.toNat default).End.Arg x95 x96.1 x96.2.1 x96.2.2.1 x96.2.2.2.1 aC x96.2.2.2.2).bind λx97=>some (x97.1.Params,x97.1.Ret,x97.1.Blocks,x97.2.1,x97.2.2.1,x97.2.2.2) else some (l64,i65,l66,i67,l68,l69))) λx98=>match x98 with|(l14,i15,l16,i17,l18,l19)=>some (.next (w64 (i1+1),l14,i15,l16,i17,l18,l19)) else some (.done (l2,i3,l4,i5,l6,l7))
def Q95(a3:TFunc)(i1:Int):=(a3.Blocks.getD i1.toNat default)
def uw(aC:List Re):=(Bt (λ(v_:Ay)=>((Xj v_):AV)) aC)
def Ib(a3:TFunc)(a5:Int)(a7:Ax)(aC:List Re)(aB:List Bj):Option uk:=
 (Ac   (Ep a3 aC) (0,a3.Params,a3.Ret,a3.Blocks,a5,a7,aB)).bind λx100=>match x100 with|(l8,i9,l10,i11,l12,l13)=>some (⟨l8,i9,l10⟩,i11,l12,l13)
theorem Vw(h:Ib v0 v1 v2 v25 v12=some v29):sP 161 OX [(Z1 v0.Params v0.Ret v0.Blocks v1 v2 9100005 v12),(Ln 37006 211 v12.length),(9100005,.obj (.map false .i64 (Bt (λ(v_:Ay)=>((Xj v_):AV)) v25)))] (.tuple []) [(Z1 v29.1.Params v29.1.Ret v29.1.Blocks v29.2.1 v29.2.2.1 9100005 v29.2.2.2),(Ln 37006 211 v29.2.2.2.length),(9100005,.obj (.map false .i64 (Bt (λ(v_:Ay)=>((Xj v_):AV)) v25)))]:=
 sG Tryz.func161 λΓ q=>Af q KV Iz (tL q h KV Iz (λu (i1,l2,i3,l4,i5,l6,l7)=>(Cm u [(18,(Z5 i1))] (ZM l2 i3 l4 i5 l6 l7 l7.length))) (λu (l8,i9,l10,i11,l12,l13)=>aG Γ (.exit 0) (Nb [] Iz u [] (ZM l8 i9 l10 i11 l12 l13 l13.length))) (λ⟨i1,l2,i3,l4,i5,l6,l7⟩ y h=>Af q [0,16,17,18,19] Iz (gC h (λh=>tB h λx98 y98 h=>gJ y98 (λ(l14,i15,l16,i17,l18,l19)=>aG Γ .normal (⟨[cO,(16,(OY v0.Blocks)),(b8 17 v0.Blocks.length),(18,(Z5 i1))],(yi l14 i15 l16 i17 l18 l19 l19.length (uw v25)),[]⟩:St)) (λy h=>tV q er S0 h λh=>Af q ei S0 (tL q h ei S0 (λu (i21,l22,i23,l24,i25,l26,l27)=>(Cm u [(26,(Z5 i21))] (ZM l22 i23 l24 i25 l26 l27 l27.length))) (λu (l28,i29,l30,i31,l32,l33)=>aG Γ (.exit 2) (Nb er S0 u [] (ZM l28 i29 l30 i31 l32 l33 l33.length))) (λ⟨i21,l22,i23,l24,i25,l26,l27⟩ y h=>Af q [0,2,3,16,17,18,24,25,26,27] S0 (gC h (λh=>tV q [0,2,3,5,16,17,18,24,25,26] IK h λh=>Af q kU IK (tL q h kU IK (λu (i35,l36,i37,l38,i39,l40,l41)=>(Cm u [(33,(Z5 i35))] (ZM l36 i37 l38 i39 l40 l41 l41.length))) (λu (l42,i43,l44,i45,l46,l47)=>aG Γ (.exit 4) (Nb ei S0 u [] (ZM l42 i43 l44 i45 l46 l47 l47.length))) (λ⟨i35,l36,i37,l38,i39,l40,l41⟩ y h=>Af q [0,2,3,5,16,17,18,24,25,26,31,32,33,34] IK (gC h (λh=>tV q [0,2,3,5,6,7,16,17,18,24,25,26,31,32,33] IK h λh=>tB h λx49 y49 h=>tC h λc50_ h=>tB h λx51 y51 h=>tB h λx52 y52 h=>tT q kU IK [(yr x49),(Z62 x51.1 x51.2.1.Params x51.2.1.Ret x51.2.1.Blocks x51.2.2.1 x51.2.2.2.1 x51.2.2.2.2 x51.2.2.2.2.length (uw v25)),(yl x52.1.Params x52.1.Ret x52.1.Blocks x52.2.1 x52.2.2.1 x52.2.2.2 x52.2.2.2.length (uw v25))] (c4 (Mt y49) c50_ (Ny y51) (K5 y52)) (Af q kU IK (tN h))) λh=>tS h (gO (Be (Bg ei S0 q))))) λx53 h=>(match x53,h with|⟨l42,i43,l44,i45,l46,l47⟩,h=>gA (Af q ei S0 (tN h))))) λh=>tS h (gO (Be (Bg er S0 q))))) λx55 h=>(match x55,h with|⟨l28,i29,l30,i31,l32,l33⟩,h=>gA (Af q ek S0 (tL q h ek S0 (λu (i57,l58,i59,l60,i61,l62,l63)=>(Cm u [(56,(Z5 i57))] (ZM l58 i59 l60 i61 l62 l63 l63.length))) (λu (l64,i65,l66,i67,l68,l69)=>aG Γ (.exit 6) (Nb er S0 u [] (ZM l64 i65 l66 i67 l68 l69 l69.length))) (λ⟨i57,l58,i59,l60,i61,l62,l63⟩ y h=>Af q [0,2,3,16,17,18,54,55,56,57] S0 (gC h (λh=>tV q [0,2,3,8,9,16,17,18,54,55,56] YW h λh=>tB h λx71 y71 h=>tT q kT YW [(lM x71)] (c1 (VS y71)) (tL q h kT YW (λu (i72,l73,i74,l75,i76,l77,l78)=>(Cm u [(64,(Z5 i72))] (ZM l73 i74 l75 i76 l77 l78 l78.length))) (λu (l79,i80,l81,i82,l83,l84)=>aG Γ (.exit 8) (Nb ek S0 u [] (ZM l79 i80 l81 i82 l83 l84 l84.length))) (λ⟨i72,l73,i74,l75,i76,l77,l78⟩ y h=>Af q [0,2,3,8,9,16,17,18,54,55,56,62,63,64,65] YW (gC h (λh=>tV q [0,2,3,8,9,10,11,16,17,18,54,55,56,62,63,64] [3,9,11,30000,37006,9100005] h λh=>tC h λc86_ h=>tB h λx87 y87 h=>tT q kT YW [(yl x87.1.Params x87.1.Ret x87.1.Blocks x87.2.1 x87.2.2.1 x87.2.2.2 x87.2.2.2.length (uw v25))] (c2 c86_ (K5 y87)) (Af q kT YW (tN h))) λh=>tS h (gO (Be (Bg ek S0 q))))) λx88 h=>(match x88,h with|⟨l79,i80,l81,i82,l83,l84⟩,h=>gA (Af q ek S0 (tN h))))) λh=>tS h (gO (Be (Bg er S0 q))))) λx90 h=>(match x90,h with|⟨l64,i65,l66,i67,l68,l69⟩,h=>gA (tW q [0,2,3,16,17,18,84] S0 [0,2,3,16,17,18,84,85] S0 (gC h (λh=>tB h λx92 y92 h=>tB h λx93 y93 h=>tB h λx94 y94 h=>tT q KV Iz [(yr x92),(Z62 x93.1 x93.2.1.Params x93.2.1.Ret x93.2.1.Blocks x93.2.2.1 x93.2.2.2.1 x93.2.2.2.2 x93.2.2.2.2.length (uw v25)),(yl x94.1.Params x94.1.Ret x94.1.Blocks x94.2.1 x94.2.2.1 x94.2.2.2 x94.2.2.2.length (uw v25))] (c3 (Mt y92) (Ny y93) (K5 y94)) (tS h (gK (Be H8)))) λh=>Af q [0,2,3,16,17,18,101] S0 (gC h (λh=>tB h λx95 y95 h=>tB h λx96 y96 h=>tB h λx97 y97 h=>tT q KV Iz [(yr x95),(Z62 x96.1 x96.2.1.Params x96.2.1.Ret x96.2.1.Blocks x96.2.2.1 x96.2.2.2.1 x96.2.2.2.2 x96.2.2.2.2.length (uw v25)),(yl x97.1.Params x97.1.Ret x97.1.Blocks x97.2.1 x97.2.2.1 x97.2.2.2 x97.2.2.2.length (uw v25))] (c3 (Mt y95) (Ny y96) (K5 y97)) (tS h (gK (Be H8)))) λh=>tS h (gK (Be (Bg KV Iz q)))))))))))) (match x98,h with|⟨l14,i15,l16,i17,l18,l19⟩,h=>gA (Af q KV Iz (tN h)))) λh=>tS h (gO (Be (Bg [] Iz q))))) λx100 h=>(match x100,h with|⟨l8,i9,l10,i11,l12,l13⟩,h=>vB (λst' hl101=>tS h (gK (e:=.normal) (H7 EA hl101)))))
def Lu(aP:Bj)(a3:TFunc)(a5:Int)(a7:Ax)(aC:List Re)(aB:List Bj):Option CE:=
 some (D9 aC aP.v,a3,a5,a7,aB)
variable{v30:Bj}
theorem Vz(h:Lu v30 v0 v1 v2 v25 v12=some v23):sP 162 [(.ptr 30000 0),(.agg (Om v30))] [(Z1 v0.Params v0.Ret v0.Blocks v1 v2 9100005 v12),(Ln 37006 211 v12.length),(9100005,.obj (.map false .i64 (Bt (λ(v_:Ay)=>((Xj v_):AV)) v25)))] (.bool v23.1) [(Z1 v23.2.1.Params v23.2.1.Ret v23.2.1.Blocks v23.2.2.1 v23.2.2.2.1 9100005 v23.2.2.2.2),(Ln 37006 211 v23.2.2.2.2.length),(9100005,.obj (.map false .i64 (Bt (λ(v_:Ay)=>((Xj v_):AV)) v25)))]:=
 sG Tryz.func162 λΓ q=>Af q Rm S0 (gR q [6] Iz [(14,(.tuple [(uz v25 v30.v),(.bool (D9 v25 v30.v))]))] [] (c1 (show(AVle (.tuple [Fu (.agg [L9,L9,L9,L9]) (Bt (λ(v_:Ay)=>((Xj v_):AV)) v25) v30.v,.bool (D9 (Bt (λ(v_:Ay)=>((Xj v_):AV)) v25) v30.v)]) (.tuple [(uz v25 v30.v),(.bool (D9 v25 v30.v))])) from(QZ (f:=(λ(v_:Ay)=>((Xj v_):AV))) (l:=v25) (AVle.refl _) rfl))) (Af q [4] Iz (tS h (Ca EA))))
def Np(aP:Bj)(a3:TFunc)(a5:Int)(a7:Ax)(aC:List Re)(aB:List Bj):Option CE:=
 some ((Fu default aC aP.v).shape.1==aP.shape.1&&((Fu default aC aP.v).shape.2==aP.shape.2&&true),a3,a5,a7,aB)
theorem Zm(h:Np v30 v0 v1 v2 v25 v12=some v23):sP 163 [(.ptr 30000 0),(.agg (Om v30))] [(Z1 v0.Params v0.Ret v0.Blocks v1 v2 9100005 v12),(Ln 37006 211 v12.length),(9100005,.obj (.map false .i64 (Bt (λ(v_:Ay)=>((Xj v_):AV)) v25)))] (.bool v23.1) [(Z1 v23.2.1.Params v23.2.1.Ret v23.2.1.Blocks v23.2.2.1 v23.2.2.2.1 9100005 v23.2.2.2.2),(Ln 37006 211 v23.2.2.2.2.length),(9100005,.obj (.map false .i64 (Bt (λ(v_:Ay)=>((Xj v_):AV)) v25)))]:=
 sG Tryz.func163 λΓ q=>Af q Rm S0 (gR q [4] Iz [(11,(uz v25 v30.v))] [] (c1 (show(AVle (Fu (.agg [L9,L9,L9,L9]) (Bt (λ(v_:Ay)=>((Xj v_):AV)) v25) v30.v) (uz v25 v30.v)) from(bB (f:=(λ(v_:Ay)=>((Xj v_):AV))) (l:=v25) (AVle.refl _) rfl))) (tS h (Ca EA)))
def Co(aJ:Ax)(aH:Int):Int->Option (LR Int (Unit ⊕ Int)):=
 λi1=>bif decide (i1<aJ.length) then Az (A1 i1 aJ.length) (bif aH==aJ.getD i1.toNat 0 then some (.done (.inr i1)) else some (.next (w64 (i1+1)))) else some (.done (.inl ()))
def Xi(Γ:H6)(aJ:Ax)(aH:Int)(r:Int):Exit->St->Prop:=fK Tryz.prog Γ Tryz.f173.results.toList [] (.int .i64 r) []
def G3(aJ:Ax)(aH:Int):Option Int:=
 (Ac   (Co aJ aH) 0).bind λx3=>match x3 with | .inl _=>some (-1) | .inr r5=>some r5
theorem Wp(h:G3 v2 v1=some v11):sP 173 [(Z6 v2),(Z5 v1)] [] (.int .i64 v11) []:=
 sG Tryz.func173 λΓ q=>tW q Gm [] IQ [] (tL q h IQ [] (λu i1=>(Cm u [(8,(Z5 i1))] [])) (λu x_=>match x_ with|(.inl _)=>aG Γ (.exit 0) (⟨[],[],[]⟩:St)|(.inr r_)=>aR (Xi Γ v2 v1 r_)) (λi1 y h=>Af q iq [] (gC h (λh=>Af q ir [] (tV q iY [] h λh=>gC h (λh=>Af q [4] [] (tS h (gO (Lo (H7 [] (Le.refl _ _)))))) λh=>Af q IQ [] (tN h))) λh=>tS h (gO (Be (Bg [] [] q))))) λx3 h=>(match x3,h with | .inl _,h=>gA (Af q [4] [] (tS h (Ca []))) | .inr r5,h=>O3 (λst' hk=>tS h (gK hk))))
def Mz(a9:Ax)(aL:Int):Option Bool:=
 some (bif decide (0<=aL) then decide (aL<a9.length) else false)
theorem BF(h:Mz v2 v1=some v3):sP 294 [(Z6 v2),(Z5 v1)] [] (.bool v3) []:=
 sG Tryz.func294 λΓ q=>Af q Gm [] (tU q [4] [] (Yy ((decide ((0:Int)<=v1))==true) (c1 (Ml (decide ((0:Int)<=v1))))) (tS h (Ca [])))
def Dz(a9:Ax)(aa9:Int)(aa1:Int):eg->Option (LR (Int×Ax) (Ax ⊕ (Bool×Ax))):=
 λ(i1,l2)=>bif i1 !=aa1 then Az (A1 i1 l2.length) (bif l2.getD i1.toNat 0 !=0 then Az (A1 i1 l2.length) (some (.done (.inr (l2.getD i1.toNat 0 !=w64 (aa9+1),l2)))) else Az (A1 i1 a9.length) ((Mz a9 (a9.getD i1.toNat 0)).bind λx7=>bif !x7 then some (.done (.inr (false,l2))) else Az (A1 i1 l2.length) (Az (A1 i1 a9.length) (some (.next (a9.getD i1.toNat 0,l2.set i1.toNat (w64 (aa9+1)))))))) else some (.done (.inl l2))
def cA(Γ:H6)(a9:Ax)(aaE:Ax)(aa9:Int)(aa1:Int)(r:(Bool×Ax)):Exit->St->Prop:=fK Tryz.prog Γ Tryz.f293.results.toList [(Z4 34001 aaE)] (.bool r.1) [(Z4 34001 r.2)]
def Uu(a9:Ax)(aaE:Ax)(aa9:Int)(aa1:Int):Option (Bool×Ax):=
 (Ac   (Dz a9 aa9 aa1) (aa9,aaE)).bind λx10=>match x10 with | .inl l3=>some (true,l3) | .inr r12=>some r12
variable{v31:(Bool×Ax)}
theorem bG(h:Uu v2 v17 v1 v11=some v31):sP 293 [(Z6 v2),(.vsl 34001 v17.length),(Z5 v1),(Z5 v11)] [(Z4 34001 v17)] (.bool v31.1) [(Z4 34001 v31.2)]:=
 sG Tryz.func293 λΓ q=>tW q [0,1,2,3] [34001] [0,1,2,3,9] [34001] (Af q bn [34001] (tL q h bn [34001] (λu (i1,l2)=>(Cm u [(1,(.vsl 34001 l2.length)),(10,(Z5 i1))] [(Z4 34001 l2)])) (λu x_=>match x_ with|(.inl l3)=>aG Γ (.exit 0) (⟨[],[(Z4 34001 l3)],[]⟩:St)|(.inr r_)=>aR (cA Γ v2 v17 v1 v11 r_)) (λ⟨i1,l2⟩ y h=>Af q [0,1,3,9,10,16] [34001] (gC h (λh=>tC h λc4_ h=>tU q [0,1,3,9,10,25] [34001] (c2 c4_ (Eq.refl l2.length)) (gC h (λh=>tC h λc5_ h=>tU q [8] [34001] (c2 c5_ (Eq.refl l2.length)) (tS h (gO (Lo (H7 ij (Le.refl _ _)))))) λh=>tC h λc6_ h=>tB h λx7 y7 h=>tT q [0,1,3,9,10,38] [34001] [(Z2 x7)] (c2 c6_ (BF y7)) (gC h (λh=>Af q [8] [34001] (tS h (gO (Lo (H7 ij (Le.refl _ _)))))) λh=>tC h λc8_ h=>tU q bn [34001] (c2 c8_ (Eq.refl l2.length)) (gLe (Le.trans (Sq 34001 (show ∀ k_,k_<l2.length->AVleL ((λi_=>AV.eraseAll (λn_=>Bv n_ [34001]) ((Fa (λi=>Aq (l2.getD i 0)) i1.toNat 0 [(.int .i64 (w64 (v1+1)))]) i_)) k_) ((λi=>Aq ((l2.set i1.toNat (w64 (v1+1))).getD i 0)) k_) from(Bh (Db ..).symm (λk_ hk_=>(Bi (AV.eraseAll (λn_=>Bv n_ [34001])) ((Fs (λ_ _=>rfl) (Hx c8_) rfl) k_ hk_)).trans rfl)))) (Sc (λ(k_:Nat) u=>(Cm u [(1,(.vsl 34001 k_))] [(34001,.arr 1 3 k_ (λi=>Aq ((l2.set i1.toNat (w64 (v1+1))).getD i 0)))])) (show l2.length=(l2.set i1.toNat (w64 (v1+1))).length from(Db ..).symm))) (tV q bn [34001] h λh=>tN h))))) λh=>tS h (gO (Be (Bg [] [34001] q))))) λx10 h=>(match x10,h with | .inl l3,h=>gA (Af q [8] [34001] (tS h (Ca ij))) | .inr r12,h=>O3 (λst' hk=>tS h (gK hk)))))
def Hc(a9:Ax)(x1:Int):eg->Option (LR (Int×Ax) (Unit ⊕ Bool)):=
 λ(i3,l4)=>bif decide (i3<a9.length) then Az (A1 i3 a9.length) ((bif (a9.getD i3.toNat 0 !=-2)==true then Uu a9 l4 i3 x1 else some (false,[])).bind λx6=>Az (((a9.getD i3.toNat 0 !=-2)==true)=true->l4.length=x6.2.length) (bif bif a9.getD i3.toNat 0 !=-2 then !x6.1 else false then some (.done (.inr false)) else some (.next (w64 (i3+1),bif (a9.getD i3.toNat 0 !=-2)==true then x6.2 else l4)))) else some (.done (.inl ()))
def ZG(Γ:H6)(a9:Ax)(r:Bool):Exit->St->Prop:=fK Tryz.prog Γ Tryz.f284.results.toList [] (.bool r) []
def re(a9:Ax)(i3:Int):=(((a9.getD i3.toNat 0)!=-2)==true)
def Tb(a9:Ax):Option Bool:=
 (G3 a9 (-1)).bind λx1=>bif decide (x1<0) then some false else Az (0<=(a9.length:Int)/\(a9.length:Int)<=a9.length/\a9.length<=(room:Int)) ((Ac   (Hc a9 x1) (0,List.replicate (a9.length:Int).toNat 0)).bind λx8=>match x8 with | .inl _=>some true | .inr r10=>some r10)
theorem VN(h:Tb v2=some v3):sP 284 [(Z6 v2)] [] (.bool v3) []:=
 sG Tryz.func284 λΓ q=>Af q [0] [] (tB h λx1 y1 h=>tT q Rm [] [(IX x1)] (c1 (Wp y1)) (Af q [0,3,9] [] (gC h (λh=>Af q [2] [] (tS h (Ca []))) λh=>tV q S8 [12] h λh=>by exact gLe (Le.trans (Sq 12 (show ∀ k_,k_<((v2.length:Int).toNat)->AVleL ((λi_=>AV.eraseAll (λn_=>Bv n_ [12]) ((λ_=>[L9]) i_)) k_) ((λi=>Aq ((List.replicate (v2.length:Int).toNat (0:Int)).getD i 0)) k_) from(λk hk=>M9 (e:=Aq) (d:=(0:Int)) (.cons (AVle.refl _) .nil) _ k (Na hk)))) (Sc (λ(k_:Nat) u=>(Cm u [(4,(.vsl 12 k_))] (Z72 12 k_ v2.length))) (show(v2.length:Int).toNat=(List.replicate (v2.length:Int).toNat (0:Int)).length from(Oa ..).symm))) (Af q ig [12] (tL q h ig [12] (λu (i3,l4)=>(Cm u [(4,(.vsl 12 l4.length)),(15,(Z5 i3))] [(Z4 12 l4)])) (λu x_=>match x_ with|(.inl _)=>aG Γ (.exit 0) (⟨[],[],[]⟩:St)|(.inr r_)=>aR (ZG Γ v2 r_)) (λ⟨i3,l4⟩ y h=>Af q [0,3,4,14,15,16] [12] (gC h (λh=>Af q [0,3,4,5,14,15] [12] (tC h λc5_ h=>tB h λx6 y6 h=>tC h λc7_ h=>tT q [0,3,4,14,15,30] [12] [⟨[(12,34001)],[],(.bool x6.1),[(Z4 34001 x6.2)],[],[]⟩] (ci c5_ (LO (re v2 i3) (c3 (λ(hg:(re v2 i3)=true)=>(bG (A9 hg y6))) (gI (re v2 i3)) (Ml ((v2.getD i3.toNat 0)!=-2))))) (gLe (Le.trans (Sq 12 (show ∀ k_,k_<(bif (re v2 i3) then x6.2.length else l4.length)->AVleL ((λi_=>AV.eraseAll (λn_=>Bv n_ [12]) ((λi=>bif (re v2 i3) then(λi=>Aq (x6.2.getD i 0)) i else(λi=>Aq (l4.getD i 0)) i) i_)) k_) ((λi=>Aq ((bif (re v2 i3) then x6.2 else l4).getD i 0)) k_) from(Bh jN (λk_ hk_=>(Bi (AV.eraseAll (λn_=>Bv n_ [12])) ((λ_ _=>so) k_ hk_)).trans rfl)))) (Le.trans (Sc (λ(k_:Nat) u=>(Cm u [] [(12,.arr 1 3 k_ (λi=>Aq ((bif (re v2 i3) then x6.2 else l4).getD i 0)))])) (show(bif (re v2 i3) then x6.2.length else l4.length)=(bif (re v2 i3) then x6.2 else l4).length from jN)) (Sc (λ(k_:Nat) u=>(Cm u [(4,(.vsl 12 k_))] [])) (show l4.length=(bif (re v2 i3) then x6.2 else l4).length from(sq c7_))))) (gC h (λh=>Af q [2] [] (tS h (gO (Lo (H7 [] (Le.refl _ _)))))) λh=>Af q ig [12] (tN h))))) λh=>tS h (gO (Be (Bg [] [] q))))) λx8 h=>(match x8,h with | .inl _,h=>gA (Af q [2] [] (tS h (Ca []))) | .inr r10,h=>O3 (λst' hk=>tS h (gK hk))))))))
def Nr(a9:Ax)(aL:Int):Option Bool:=
 (Mz a9 aL).bind λx1=>Az ((x1==true)=true->A1 aL a9.length) (some (bif x1 then a9.getD aL.toNat 0 !=-2 else false))
theorem Y2(h:Nr v2 v1=some v3):sP 285 [(Z6 v2),(Z5 v1)] [] (.bool v3) []:=
 sG Tryz.func285 λΓ q=>Af q Gm [] (tB h λx1 y1 h=>tC h λc2_ h=>tT q [4] [] [(Z2 x1)] (ci (BF y1) (Md (x1==true) (ci c2_ (Md (x1==true) (c1 (Ml x1)))))) (tS h (Ca [])))
def Ut(a9:Ax)(a8:Int)(aE:Int):Option Bool:=
 (Tb a9).bind λx1=>(bif x1==true then Nr a9 a8 else some false).bind λx2=>(bif (bif x1 then x2 else false)==true then Nr a9 aE else some false).bind λx3=>some (bif bif x1 then x2 else false then x3 else false)
theorem bF(h:Ut v2 v1 v11=some v3):sP 245 [(Z6 v2),(Z5 v1),(Z5 v11)] [] (.bool v3) []:=
 sG Tryz.func245 λΓ q=>Af q UC [] (tB h λx1 y1 h=>tB h λx2 y2 h=>tB h λx3 y3 h=>tT q [6] [] [(Z2 x1),(Z2 x2),(Z2 x3)] (ci (VN y1) (Md (x1==true) (fq (λ(hg:(x1==true)=true)=>(Y2 (A9 hg y2))) (Ml x1) (Md ((bif x1 then x2 else false)==true) (c2 (λ(hg:((bif x1 then x2 else false)==true)=true)=>(Y2 (A9 hg y3))) (Ml (bif x1 then x2 else false))))))) (tS h (Ca [])))
def X0(a9:Ax)(a8:Int)(aE:Int):Option Bool:=
 (Ut a9 a8 aE).bind λx1=>(bif x1==true then Rs a9 a8 aE else some 0).bind λx2=>some (bif x1 then x2==a8 else false)
theorem dk(h:X0 v2 v1 v11=some v3):sP 208 [(Z6 v2),(Z5 v1),(Z5 v11)] [] (.bool v3) []:=
 sG Tryz.func208 λΓ q=>Af q UC [] (tB h λx1 y1 h=>tB h λx2 y2 h=>tT q [6] [] [(Z2 x1),(IX x2)] (ci (bF y1) (Yy (x1==true) (ci (λ(hg:(x1==true)=true)=>(LZ (A9 hg y2))) (Md (x1==true) (c1 (Ml x1)))))) (tS h (Ca [])))
def Ie(aP:Bj)(a3:TFunc)(a5:Int)(a7:Ax)(aC:List Re)(aB:List Bj):Option CE:=
 bif (Fu default aC aP.v).place.block==aP.place.block then some (decide ((Fu default aC aP.v).place.at_<aP.place.at_),a3,a5,a7,aB) else(X0 a7 (Fu default aC aP.v).place.block aP.place.block).bind λx1=>some (x1,a3,a5,a7,aB)
theorem Vy(h:Ie v30 v0 v1 v2 v25 v12=some v23):sP 164 [(.ptr 30000 0),(.agg (Om v30))] [(Z1 v0.Params v0.Ret v0.Blocks v1 v2 9100005 v12),(Ln 37006 211 v12.length),(9100005,.obj (.map false .i64 (Bt (λ(v_:Ay)=>((Xj v_):AV)) v25)))] (.bool v23.1) [(Z1 v23.2.1.Params v23.2.1.Ret v23.2.1.Blocks v23.2.2.1 v23.2.2.2.1 9100005 v23.2.2.2.2),(Ln 37006 211 v23.2.2.2.2.length),(9100005,.obj (.map false .i64 (Bt (λ(v_:Ay)=>((Xj v_):AV)) v25)))]:=
 sG Tryz.func164 λΓ q=>Af q Rm S0 (gR q [0,3,5] IK [(12,(uz v25 v30.v))] [] (c1 (show(AVle (Fu (.agg [L9,L9,L9,L9]) (Bt (λ(v_:Ay)=>((Xj v_):AV)) v25) v30.v) (uz v25 v30.v)) from(bB (f:=(λ(v_:Ay)=>((Xj v_):AV))) (l:=v25) (AVle.refl _) rfl))) (Af q [0,3,5,19] IK (gC h (λh=>Af q [4] Iz (tS h (Ca EA))) λh=>tB h λx1 y1 h=>tT q [4] Iz [(Z2 x1)] (c1 (dk y1)) (tS h (Ca EA)))))
abbrev xP:=(LR (Int×Ax×Int×List Ae×Int×Ax×List Bj) ((Ax×Int×List Ae×Int×Ax×List Bj) ⊕ (Ax×Int×List Ae×Int×Ax×List Bj)))
def F3(aC:List Re)(x8:uk):KL->Option xP:=
 λ(i9,l10,i11,l12,i13,l14,l15)=>bif decide (i9<x8.2.2.2.length) then Az (A1 i9 x8.2.2.2.length) ((Lu (x8.2.2.2.getD i9.toNat default) ⟨l10,i11,l12⟩ i13 l14 aC l15).bind λx29=>bif !x29.1 then some (.done (.inr (x29.2.1.Params,x29.2.1.Ret,x29.2.1.Blocks,x29.2.2.1,x29.2.2.2.1,x29.2.2.2.2))) else some (.next (w64 (i9+1),x29.2.1.Params,x29.2.1.Ret,x29.2.1.Blocks,x29.2.2.1,x29.2.2.2.1,x29.2.2.2.2))) else some (.done (.inl (l10,i11,l12,i13,l14,l15)))
def F4(aC:List Re)(l21:List Bj):KL->Option xP:=
 λ(i32,l33,i34,l35,i36,l37,l38)=>bif decide (i32<l21.length) then Az (A1 i32 l21.length) ((Np (l21.getD i32.toNat default) ⟨l33,i34,l35⟩ i36 l37 aC l38).bind λx52=>bif !x52.1 then some (.done (.inr (x52.2.1.Params,x52.2.1.Ret,x52.2.1.Blocks,x52.2.2.1,x52.2.2.2.1,x52.2.2.2.2))) else some (.next (w64 (i32+1),x52.2.1.Params,x52.2.1.Ret,x52.2.1.Blocks,x52.2.2.1,x52.2.2.2.1,x52.2.2.2.2))) else some (.done (.inl (l33,i34,l35,i36,l37,l38)))
def F5(aC:List Re)(l44:List Bj):KL->Option xP:=
 λ(i55,l56,i57,l58,i59,l60,l61)=>bif decide (i55<l44.length) then Az (A1 i55 l44.length) ((Ie (l44.getD i55.toNat default) ⟨l56,i57,l58⟩ i59 l60 aC l61).bind λx75=>bif !x75.1 then some (.done (.inr (x75.2.1.Params,x75.2.1.Ret,x75.2.1.Blocks,x75.2.2.1,x75.2.2.2.1,x75.2.2.2.2))) else some (.next (w64 (i55+1),x75.2.1.Params,x75.2.1.Ret,x75.2.1.Blocks,x75.2.2.1,x75.2.2.2.1,x75.2.2.2.2))) else some (.done (.inl (l56,i57,l58,i59,l60,l61)))
def Pv :KL->Option (LR (Int×Ax×Int×List Ae×Int×Ax×List Bj) (Int×TFunc×Int×Ax×List Bj)):=
 λs_=>match s_ with|(i1,l2,i3,l4,i5,l6,l7)=>some (.done (i1,⟨l2,i3,l4⟩,i5,l6,l7))
def AC(Γ:H6)(a3:TFunc)(a5:Int)(a7:Ax)(aC:List Re)(aB:List Bj)(r:nE):Exit->St->Prop:=fK Tryz.prog Γ Tryz.f108.results.toList [(Z1 a3.Params a3.Ret a3.Blocks a5 a7 9100005 aB),(Ln 37006 211 aB.length),(9100005,.obj (.map false .i64 (Bt (λ(v_:Ay)=>((Xj v_):AV)) aC)))] (Z5 r.1) [(Z1 r.2.1.Params r.2.1.Ret r.2.1.Blocks r.2.2.1 r.2.2.2.1 9100005 r.2.2.2.2),(Ln 37006 211 r.2.2.2.2.length),(9100005,.obj (.map false .i64 (Bt (λ(v_:Ay)=>((Xj v_):AV)) aC)))]
def yf(aC:List Re):=(Bt (λ(v_:Ay)=>((Xj v_):AV)) aC)
def Kk(a3:TFunc)(a5:Int)(a7:Ax)(aC:List Re)(aB:List Bj):Option nE:=
 (Rz   ((Ib a3 a5 a7 aC aB).bind λx8=>(Ac   (F3 aC x8) (0,x8.1.Params,x8.1.Ret,x8.1.Blocks,x8.2.1,x8.2.2.1,x8.2.2.2)).bind λx30=>match x30 with | .inl (l16,i17,l18,i19,l20,l21)=>(Ac   (F4 aC l21) (0,l16,i17,l18,i19,l20,l21)).bind λx53=>(match x53 with | .inl (l39,i40,l41,i42,l43,l44)=>(Ac   (F5 aC l44) (0,l39,i40,l41,i42,l43,l44)).bind λx76=>(match x76 with | .inl (l62,i63,l64,i65,l66,l67)=>some (.done ((0:Int),⟨l62,i63,l64⟩,i65,l66,l67)) | .inr (l68,i69,l70,i71,l72,l73)=>some (.next ((7:Int),l68,i69,l70,i71,l72,l73))) | .inr (l45,i46,l47,i48,l49,l50)=>some (.next (6,l45,i46,l47,i48,l49,l50))) | .inr (l22,i23,l24,i25,l26,l27)=>some (.next (7,l22,i23,l24,i25,l26,l27))) Pv).bind λx81=>some x81
theorem Zo(h:Kk v0 v1 v2 v25 v12=some v13):sP 108 OX [(Z1 v0.Params v0.Ret v0.Blocks v1 v2 9100005 v12),(Ln 37006 211 v12.length),(9100005,.obj (.map false .i64 (Bt (λ(v_:Ay)=>((Xj v_):AV)) v25)))] (Z5 v13.1) [(Z1 v13.2.1.Params v13.2.1.Ret v13.2.1.Blocks v13.2.2.1 v13.2.2.2.1 9100005 v13.2.2.2.2),(Ln 37006 211 v13.2.2.2.2.length),(9100005,.obj (.map false .i64 (Bt (λ(v_:Ay)=>((Xj v_):AV)) v25)))]:=
 sG Tryz.func108 λΓ q=>Af q [0] Iz (tB h λx81 y81 h=>gS y81 (λ(s_:KL)=>match s_ with|(i1,l2,i3,l4,i5,l6,l7)=>0) (λ(s_:KL)=>match s_ with|(i1,l2,i3,l4,i5,l6,l7)=>(⟨[(4,(Z5 i1))],(yi l2 i3 l4 i5 l6 l7 l7.length (yf v25)),[]⟩:St)) (λr_=>aR (AC Γ v0 v1 v2 v25 v12 r_)) (λy h=>tB h λx8 y8 h=>tT q [0] Iz [(yl x8.1.Params x8.1.Ret x8.1.Blocks x8.2.1 x8.2.2.1 x8.2.2.2 x8.2.2.2.length (yf v25))] (c1 (Vw y8)) (tW q Rm S0 Rm S0 (Af q FA Iz (gU 3 (Af q bq Iz (pN true (tU q jA V9 (c1 (show(A1 (0:Int) 3) from(by decide))) (tW q ii V9 IL V9 (tL q h IL V9 (λu (i9,l10,i11,l12,i13,l14,l15)=>(Cm u [(32,(Z5 i9))] (ZM l10 i11 l12 i13 l14 l15 l15.length))) (λu x_=>match x_ with|(.inl (l16,i17,l18,i19,l20,l21))=>aG Γ (.exit 2) (Nb FA Iz u [] (ZM l16 i17 l18 i19 l20 l21 l21.length))|(.inr (l22,i23,l24,i25,l26,l27))=>aG Γ (.goto 0) (Nb [4] Iz u [] (ZM l22 i23 l24 i25 l26 l27 l27.length))) (λ⟨i9,l10,i11,l12,i13,l14,l15⟩ y h=>Af q rU V9 (gC h (λh=>tV q rW iR h λh=>tB h λx29 y29 h=>tT q rV V9 [(Z79 x29.1 x29.2.1.Params x29.2.1.Ret x29.2.1.Blocks x29.2.2.1 x29.2.2.2.1 x29.2.2.2.2 x29.2.2.2.2.length (yf v25))] (c1 (Vz y29)) (gC h (λh=>tS h (gO (Be (Bg [4] Iz q)))) λh=>Af q IL V9 (tN h))) λh=>tS h (gO (Be (Bg FA Iz q))))) λx30 h=>(match x30,h with | .inl ⟨l16,i17,l18,i19,l20,l21⟩,h=>gA (tW q FA Iz bq Iz (pN true (tU q jA V9 (c1 (show(A1 (1:Int) 3) from(by decide))) (tW q ii V9 IL V9 (tL q h IL V9 (λu (i32,l33,i34,l35,i36,l37,l38)=>(Cm u [(32,(Z5 i32))] (ZM l33 i34 l35 i36 l37 l38 l38.length))) (λu x_=>match x_ with|(.inl (l39,i40,l41,i42,l43,l44))=>aG Γ (.exit 2) (Nb FA Iz u [] (ZM l39 i40 l41 i42 l43 l44 l44.length))|(.inr (l45,i46,l47,i48,l49,l50))=>aG Γ (.goto 0) (Nb [4] Iz u [] (ZM l45 i46 l47 i48 l49 l50 l50.length))) (λ⟨i32,l33,i34,l35,i36,l37,l38⟩ y h=>Af q rU V9 (gC h (λh=>tV q rW iR h λh=>tB h λx52 y52 h=>tT q rV V9 [(Z79 x52.1 x52.2.1.Params x52.2.1.Ret x52.2.1.Blocks x52.2.2.1 x52.2.2.2.1 x52.2.2.2.2 x52.2.2.2.2.length (yf v25))] (c1 (Zm y52)) (gC h (λh=>tS h (gO (Be (Bg [4] Iz q)))) λh=>Af q IL V9 (tN h))) λh=>tS h (gO (Be (Bg FA Iz q))))) λx53 h=>(match x53,h with | .inl ⟨l39,i40,l41,i42,l43,l44⟩,h=>gA (tW q FA Iz bq Iz (pN true (tU q jA V9 (c1 (show(A1 (2:Int) 3) from(by decide))) (tW q ii V9 IL V9 (tL q h IL V9 (λu (i55,l56,i57,l58,i59,l60,l61)=>(Cm u [(32,(Z5 i55))] (ZM l56 i57 l58 i59 l60 l61 l61.length))) (λu x_=>match x_ with|(.inl (l62,i63,l64,i65,l66,l67))=>aG Γ (.exit 2) (Nb FA Iz u [] (ZM l62 i63 l64 i65 l66 l67 l67.length))|(.inr (l68,i69,l70,i71,l72,l73))=>aG Γ (.goto 0) (Nb [4] Iz u [] (ZM l68 i69 l70 i71 l72 l73 l73.length))) (λ⟨i55,l56,i57,l58,i59,l60,l61⟩ y h=>Af q rU V9 (gC h (λh=>tV q rW iR h λh=>tB h λx75 y75 h=>tT q rV V9 [(Z79 x75.1 x75.2.1.Params x75.2.1.Ret x75.2.1.Blocks x75.2.2.1 x75.2.2.2.1 x75.2.2.2.2 x75.2.2.2.2.length (yf v25))] (c1 (Vy y75)) (gC h (λh=>tS h (gO (Be (Bg [4] Iz q)))) λh=>Af q IL V9 (tN h))) λh=>tS h (gO (Be (Bg FA Iz q))))) λx76 h=>(match x76,h with | .inl ⟨l62,i63,l64,i65,l66,l67⟩,h=>gA (tW q FA Iz bq Iz (pN false (Af q [2] Iz (tS h (fB (Lo (H7 EA (Le.refl _ _)))))))) | .inr ⟨l68,i69,l70,i71,l72,l73⟩,h=>vB (λst' hl78=>tS h (fy (Le.trans hl78 H8))))))))) | .inr ⟨l45,i46,l47,i48,l49,l50⟩,h=>vB (λst' hl79=>tS h (fy (Le.trans hl79 H8))))))))) | .inr ⟨l22,i23,l24,i25,l26,l27⟩,h=>vB (λst' hl80=>tS h (fy (Le.trans hl80 H8))))))))))))) (λ⟨i1,l2,i3,l4,i5,l6,l7⟩ y h=>Af q [2] Iz (tS h (fB (Lo (H7 EA (Le.refl _ _)))))) (O3 (λst' hk=>tS h (gK hk))))
def nK:=(λ(v_:Ay)=>((Xj v_):AV))
def xj(x1:nE):List NR:=(Z3 x1.2.1.Params x1.2.1.Ret x1.2.1.Blocks x1.2.2.1 x1.2.2.2.1 x1.2.2.2.2 x1.2.2.2.2.length)
def xk(x2:nE):List NR:=(Z3 x2.2.1.Params x2.2.1.Ret x2.2.1.Blocks x2.2.2.1 x2.2.2.2.1 x2.2.2.2.2 x2.2.2.2.2.length)
def xl(x3:nE):List NR:=(Z3 x3.2.1.Params x3.2.1.Ret x3.2.1.Blocks x3.2.2.1 x3.2.2.2.1 x3.2.2.2.2 x3.2.2.2.2.length)
def J0(a3:TFunc)(a5:Int)(a7:Ax)(aB:List Bj):Option uj:=
 (Kj a3 a5 a7 aB).bind λx1=>bif x1.1 !=0 then some (x1.1,x1.2.1,x1.2.2.1,x1.2.2.2.1,x1.2.2.2.2,[]) else(I9 x1.2.1 x1.2.2.1 x1.2.2.2.1 x1.2.2.2.2).bind λx2=>bif x2.1 !=0 then some (x2.1,x2.2.1,x2.2.2.1,x2.2.2.2.1,x2.2.2.2.2,[]) else(Jz x2.2.1 x2.2.2.1 x2.2.2.2.1 x2.2.2.2.2).bind λx3=>bif x3.1 !=0 then some (x3.1,x3.2.1,x3.2.2.1,x3.2.2.2.1,x3.2.2.2.2,[]) else(Ic x3.2.1 x3.2.2.1 x3.2.2.2.1 x3.2.2.2.2).bind λx4=>bif x4.1 !=0 then some (x4.1,x4.2.1,x4.2.2.1,x4.2.2.2.1,x4.2.2.2.2.1,x4.2.2.2.2.2) else(Kk x4.2.1 x4.2.2.1 x4.2.2.2.1 x4.2.2.2.2.2 x4.2.2.2.2.1).bind λx5=>bif x5.1 !=0 then some (x5.1,x5.2.1,x5.2.2.1,x5.2.2.2.1,x5.2.2.2.2,x4.2.2.2.2.2) else some (0,x5.2.1,x5.2.2.1,x5.2.2.2.1,x5.2.2.2.2,x4.2.2.2.2.2)
theorem X5(h:J0 v0 v1 v2 v12=some v27):sP 60 OX (Z3 v0.Params v0.Ret v0.Blocks v1 v2 v12 v12.length) (Z5 v27.1) [(Z1 v27.2.1.Params v27.2.1.Ret v27.2.1.Blocks v27.2.2.1 v27.2.2.2.1 9200005 v27.2.2.2.2.1),(Ln 37006 211 v27.2.2.2.2.1.length),(9200005,.obj (.map false .i64 (Bt (λ(v_:Ay)=>((Xj v_):AV)) v27.2.2.2.2.2)))]:=
 sG Tryz.func60 λΓ q=>tW q [0] I6 [3] TG (Af q LD I6 (gU 5 (Af q LA I6 (pN true (tU q TZ I6 (c1 (show(A1 (0:Int) 5) from(by decide))) (tB h λx1 y1 h=>tT q UA I6 [(Z99 x1.1 (xj x1))] (c1 (Zn y1)) (Af q TM I6 (gC h (λh=>Af q [2] I6 (Qa (⟨[(2,(Z5 x1.1))],(xj x1),[]⟩:St) (tS h (gK (e:=.ret) (H7 rS (Le.trans (Xx (r:=30000) (j:=5) (nm:=9300005) .i64 rfl rfl (nl rfl) rfl) (Bg (st':=⟨[(2,(Z5 x1.1))],[(Z1 x1.2.1.Params x1.2.1.Ret x1.2.1.Blocks x1.2.2.1 x1.2.2.2.1 9300005 x1.2.2.2.2),(Ln 37006 211 x1.2.2.2.2.length),(9300005,.obj (.map false .i64 (Bt nK ([]:List Re))))],[]⟩) [2] iV q))))))) λh=>tW q LD I6 LA I6 (pN true (tU q TZ I6 (c1 (show(A1 (1:Int) 5) from(by decide))) (tB h λx2 y2 h=>tT q UA I6 [(Z99 x2.1 (xk x2))] (c1 (Wm y2)) (Af q TM I6 (gC h (λh=>Af q [2] I6 (Qa (⟨[(2,(Z5 x2.1))],(xk x2),[]⟩:St) (tS h (gK (e:=.ret) (H7 rS (Le.trans (Xx (r:=30000) (j:=5) (nm:=9300005) .i64 rfl rfl (nl rfl) rfl) (Bg (st':=⟨[(2,(Z5 x2.1))],[(Z1 x2.2.1.Params x2.2.1.Ret x2.2.1.Blocks x2.2.2.1 x2.2.2.2.1 9300005 x2.2.2.2.2),(Ln 37006 211 x2.2.2.2.2.length),(9300005,.obj (.map false .i64 (Bt nK ([]:List Re))))],[]⟩) [2] iV q))))))) λh=>tW q LD I6 LA I6 (pN true (tU q TZ I6 (c1 (show(A1 (2:Int) 5) from(by decide))) (tB h λx3 y3 h=>tT q UA I6 [(Z99 x3.1 (xl x3))] (c1 (X4 y3)) (Af q TM I6 (gC h (λh=>Af q [2] I6 (Qa (⟨[(2,(Z5 x3.1))],(xl x3),[]⟩:St) (tS h (gK (e:=.ret) (H7 rS (Le.trans (Xx (r:=30000) (j:=5) (nm:=9300005) .i64 rfl rfl (nl rfl) rfl) (Bg (st':=⟨[(2,(Z5 x3.1))],[(Z1 x3.2.1.Params x3.2.1.Ret x3.2.1.Blocks x3.2.2.1 x3.2.2.2.1 9300005 x3.2.2.2.2),(Ln 37006 211 x3.2.2.2.2.length),(9300005,.obj (.map false .i64 (Bt nK ([]:List Re))))],[]⟩) [2] iV q))))))) λh=>tW q LD I6 LA I6 (pN true (tU q TZ I6 (c1 (show(A1 (3:Int) 5) from(by decide))) (tB h λx4 y4 h=>tT q UA Ze [⟨Zd,[(9200005,13000005)],(Z5 x4.1),[(Z1 x4.2.1.Params x4.2.1.Ret x4.2.1.Blocks x4.2.2.1 x4.2.2.2.1 9200005 x4.2.2.2.2.1),(Ln 37006 211 x4.2.2.2.2.1.length),(9200005,.obj (.map false .i64 (Bt nK x4.2.2.2.2.2)))],[],[]⟩] (c1 (Vx y4)) (Af q TM Ze (gC h (λh=>Af q [2] Ze (tS h (Ca rR))) λh=>tW q LD Ze LA Ze (pN true (tU q TZ Ze (c1 (show(A1 (4:Int) 5) from(by decide))) (tB h λx5 y5 h=>tT q UA Ze [⟨[(30000,30000),(37006,37006),(13000005,9100005)],[],(Z5 x5.1),[(Z1 x5.2.1.Params x5.2.1.Ret x5.2.1.Blocks x5.2.2.1 x5.2.2.2.1 9100005 x5.2.2.2.2),(Ln 37006 211 x5.2.2.2.2.length),(9100005,.obj (.map false .i64 (Bt nK x4.2.2.2.2.2)))],[],[]⟩] (c1 (Zo y5)) (Af q TM Ze (gC h (λh=>Af q [2] Ze (tS h (Ca rR))) λh=>tW q LD Ze LA Ze (pN false (Af q [2] Ze (tS h (Ca rR))))))))))))))))))))))))))))))))
set_option maxRecDepth 100000
set_option maxHeartbeats 2000000
def xn(a0:TFunc)(aU:Int):AV:=(.agg [(Z6 a0.Params),(Z5 a0.Ret),(OY a0.Blocks),(Z5 aU),fU,.nilm,(AV.list 5 Om default ([]:List Bj) .exact)])
def xm(a0:TFunc)(aU:Int):=(⟨[fA],[(5,.row 102 [(Z6 a0.Params),(Z5 a0.Ret),(OY a0.Blocks),(Z5 aU),fU,.nilm,(AV.list 5 Om default ([]:List Bj) .exact)])],[]⟩:St)
def vS(a0:TFunc)(aU:Int):=(⟨[fA],[(5,.row 102 [(Z6 a0.Params),(Z5 a0.Ret),(OY a0.Blocks),(Z5 aU),fU,.nilm,(AV.list 5 Om default ([]:List Bj) (.own 50506))]),(50506,.tok 5 211 (([]:List Bj).length))],[]⟩:St)
def R5(a0:TFunc)(aU:Int):Option Int:=
 bif bif decide (aU<0) then true else decide (2<aU) then some 1 else(J0 a0 aU [] []).bind λx1=>some x1.1
theorem RE(h:R5 v0 v1=some v11):sP 22 [(Vn v0),(Z5 v1)] [] (.int .i64 v11) []:=
 sG Tryz.func22 λΓ q=>Af q Ea [2] (tU q UB [2] (c2 (gI ((decide (v1<0))==false)) (L5 (decide (v1<0)))) (gC h (λh=>Af q [4] [] (tS h (Ca []))) λh=>gR q [5] [5] [(14,(xn v0 v1))] [] (c1 (show(AVle (.agg [(Z6 v0.Params),(Z5 v0.Ret),(OY v0.Blocks),(Z5 v1),Z0,.nilm,Z0]) (xn v0 v1)) from(AVle.agg (.cons (AVle.refl _) (.cons (AVle.refl _) (.cons (AVle.refl _) (.cons (AVle.refl _) (.cons Eh (.cons (AVle.refl _) (.cons Eh .nil)))))))))) (Qa (xm v0 v1) (gLe (show Le Γ _ (vS v0 v1) from Le.trans (Bg (st':=(xm v0 v1)) [5] [5] q) (Le.trans (BA (r:=5) (j:=6) (nm:=50506) (sz':=5) (λi=>Om (([]:List Bj).getD i default)) 211 rfl rfl (nl rfl) rfl (.inl ⟨rfl,rfl⟩) (λh_=>absurd h_ (by decide))) (Bg (st':=(vS v0 v1)) [5] [5,50506] q))) (gLe (show Le Γ _ (⟨[fA],[(5,.row 102 [(Z6 v0.Params),(Z5 v0.Ret),(OY v0.Blocks),(Z5 v1),(AV.list 1 Aq 0 ([]:Ax) .none),.nilm,(AV.list 5 Om default ([]:List Bj) (.own 50506))]),(50506,.tok 5 211 (([]:List Bj).length))],[]⟩:St) from Le.trans (Bg (st':=(vS v0 v1)) [5] [5,50506] q) (Jc (.cons (AVle.refl _) .nil) (.row (.cons (AVle.refl _) (.cons (AVle.refl _) (.cons (AVle.refl _) (.cons (AVle.refl _) (.cons AVle.untag (.cons (AVle.refl _) (.cons (AVle.refl _) .nil))))))) (.same .nil)))) (tB h λx1 y1 h=>tT q [4] [] [⟨[(5,30000),(50506,37006)],[(9200005,10000505)],(Z5 x1.1),[(Z1 x1.2.1.Params x1.2.1.Ret x1.2.1.Blocks x1.2.2.1 x1.2.2.2.1 9200005 x1.2.2.2.2.1),(Ln 37006 211 x1.2.2.2.2.1.length),(9200005,.obj (.map false .i64 (Bt (λ(v_:Ay)=>((Xj v_):AV)) x1.2.2.2.2.2)))],[],[]⟩] (c1 (X5 y1)) (tS h (Ca []))))))))
def Uw(aX:Int):Option Bool:=
 Option.bind  (bif aX==4 then some (aX==4) else bif aX==16 then some (aX==16) else bif aX==17 then some (aX==17) else bif aX==18 then some (aX==18) else bif aX==19 then some (aX==19) else some (aX==20)) λx2=>bif x2 then some false else(O4 aX).bind λx4=>some x4
theorem bM(h:Uw v1=some v3):sP 92 [(Z5 v1)] [] (.bool v3) []:=
 sG Tryz.func92 λΓ q=>tW q [0] [] Rm [] (tB h λx2 y2 h=>gJ y2 (λb1=>aG Γ .normal (⟨[(0,(Z5 v1)),(4,(.bool b1))],[],[]⟩:St)) (λy h=>Af q S8 [] (gC h (λh=>tS h (gK (Be (Bg [0,4] [] q)))) λh=>Af q S8 [] (gC h (λh=>tS h (gK (Be (Bg [0,4] [] q)))) λh=>Af q S8 [] (gC h (λh=>tS h (gK (Be (Bg [0,4] [] q)))) λh=>Af q S8 [] (gC h (λh=>tS h (gK (Be (Bg [0,4] [] q)))) λh=>Af q S8 [] (gC h (λh=>tS h (gK (Be (Bg [0,4] [] q)))) λh=>Af q [0,4] [] (tS h (gK (Be H8))))))))) (gA (gC h (λh=>Af q [2] [] (tS h (Ca []))) λh=>tB h λx4 y4 h=>tT q [2] [] [(Z2 x4)] (c1 (BK y4)) (tS h (Ca [])))))
def Pe(aD:Int):Option Bool:=
 some (aD !=aD)
theorem Wn(h:Pe v1=some v3):sP 275 [(Z5 v1)] [] (.bool v3) []:=
 sG Tryz.func275 λΓ q=>tW q [0] [] [2] [] (tS h (Ca []))
def Tx(aD:Int)(aZ:Int):Option Bool:=
 (Pe aD).bind λx1=>(bif x1==true then Pe aZ else some false).bind λx2=>some (bif bif x1 then !x2 else false then true else decide (aD<aZ))
theorem NJ(h:Tx v1 v11=some v3):sP 234 [(Z5 v1),(Z5 v11)] [] (.bool v3) []:=
 sG Tryz.func234 λΓ q=>Af q Gm [] (tB h λx1 y1 h=>tB h λx2 y2 h=>tT q [4] [] [(Z2 x1),(Z2 x2)] (d5_ (Wn y1) (gI (x1==true)) (λ(hg:(x1==true)=true)=>(Wn (A9 hg y2))) (gI (x1==true)) (Ml x1) (Md ((bif x1 then(!x2) else false)==false) (c1 (L5 (bif x1 then(!x2) else false))))) (tS h (Ca [])))
def Mg(aD:Int):Option Bool:=
 some (aD !=aD)
theorem S3(h:Mg v1=some v3):sP 235 [(Z5 v1)] [] (.bool v3) []:=
 sG Tryz.func235 λΓ q=>tW q [0] [] [2] [] (tS h (Ca []))
def B3(aD:Ax)(aW:Int):J8->Option nD:=
 λ(i1,i2)=>bif decide (i1<i2) then Az (A1 (w64 (Wx .u64 (Iy (w64 (i1+i2))) 1)) aD.length) ((Tx (aD.getD (w64 (Wx .u64 (Iy (w64 (i1+i2))) 1)).toNat 0) aW).bind λx5=>bif x5 then some (.next (w64 (w64 (Wx .u64 (Iy (w64 (i1+i2))) 1)+1),i2)) else some (.next (i1,w64 (Wx .u64 (Iy (w64 (i1+i2))) 1)))) else some (.done i1)
def nL(x6:Int)(aD:Ax):=((decide (x6<(aD.length:Int)))==true)
def UT(x6:Int)(aD:Ax)(aW:Int):=((nL x6 aD)&&(((aD.getD x6.toNat 0)==aW)==false))
def Fc(aD:Ax)(aW:Int):Option (Int×Bool):=
 (Ac   (B3 aD aW) (0,aD.length)).bind λx6=>Az ((decide (x6<aD.length)==true)=true->A1 x6 aD.length) (Az ((decide (x6<aD.length)==true&&(aD.getD x6.toNat 0==aW)==false)=true->A1 x6 aD.length) ((bif decide (x6<aD.length)==true&&(aD.getD x6.toNat 0==aW)==false then Mg (aD.getD x6.toNat 0) else some false).bind λx10=>(bif decide (x6<aD.length)==true&&(aD.getD x6.toNat 0==aW)==false&&x10==true then Mg aW else some false).bind λx11=>some (x6,bif decide (x6<aD.length) then bif aD.getD x6.toNat 0==aW then true else bif x10 then x11 else false else false)))
variable{v32:(Int×Bool)}
theorem Rw(h:Fc v2 v1=some v32):sP 192 [(Z6 v2),(Z5 v1)] [] (.tuple [(Z5 v32.1),(.bool v32.2)]) []:=
 sG Tryz.func192 λΓ q=>tW q Gm [] [0,1,6] [] (Af q TL [] (tL q h TL [] (λu (i1,i2)=>(Cm u [(7,(Z5 i1)),(8,(Z5 i2))] [])) (λu i3=>aG Γ (.exit 0) (Nb TV [] u [(7,(Z5 i3))] [])) (λ⟨i1,i2⟩ y h=>Af q [0,1,6,7,8,15] [] (gC h (λh=>tU q [0,1,6,7,8,9] [] (c1 (show(0<=(1:Int)) from(by decide))) (tC h λc4_ h=>tB h λx5 y5 h=>tT q [0,1,6,7,8,9,27] [] [(Z2 x5)] (c2 c4_ (NJ y5)) (gC h (λh=>Af q TL [] (tN h)) λh=>Af q TL [] (tN h)))) λh=>tS h (gO (Be (Bg TV [] q))))) λx6 h=>gA (tC h λc8_ h=>tC h λc9_ h=>tB h λx10 y10 h=>tB h λx11 y11 h=>tT q [4,5] [] [(Z2 x10),(Z2 x11)] (Md (nL x6 v2) (ci c8_ (LO (nL x6 v2) (Md (UT x6 v2 v1) (ci c9_ (Md (UT x6 v2 v1) (c9 (λ(hg:(UT x6 v2 v1)=true)=>(S3 (A9 hg y10))) (gI (UT x6 v2 v1)) (gI ((UT x6 v2 v1)&&(x10==true))) (λ(hg:((UT x6 v2 v1)&&(x10==true))=true)=>(S3 (A9 hg y11))) (gI (UT x6 v2 v1)) (show((UT x6 v2 v1)=true->(x10=true->((UT x6 v2 v1)&&(x10==true))=true)) from(λhg=>(aT hg))) (gI (nL x6 v2)) (show((nL x6 v2)=true->(((v2.getD x6.toNat 0)==v1)=false->(UT x6 v2 v1)=true)) from(λhg=>(aF hg))) (Ml (decide (x6<(v2.length:Int))))))))))) (tS h (Ca [])))))
set_option maxRecDepth 100000
set_option maxHeartbeats 2000000
def B1(a8:Ax)(aE:Ax):Int->Option (LR Int (Unit ⊕ Bool)):=
 λi1=>bif decide (i1<a8.length) then Az (A1 i1 a8.length) (Az (A1 i1 aE.length) (bif a8.getD i1.toNat 0 !=aE.getD i1.toNat 0 then some (.done (.inr false)) else some (.next (w64 (i1+1))))) else some (.done (.inl ()))
def AE(Γ:H6)(a8:Ax)(aE:Ax)(r:Bool):Exit->St->Prop:=fK Tryz.prog Γ Tryz.f13.results.toList [] (.bool r) []
def Bb(a8:Ax)(aE:Ax):Option Bool:=
 bif (a8.length:Int)!=aE.length then some false else(Ac   (B1 a8 aE) 0).bind λx4=>match x4 with | .inl _=>some true | .inr r6=>some r6
theorem Ck(h:Bb v2 v17=some v3):sP 13 [(Z6 v2),(Z6 v17)] [] (.bool v3) []:=
 sG Tryz.func13 λΓ q=>tW q Gm [] Yr [] (gC h (λh=>Af q [4] [] (tS h (Ca []))) λh=>Af q Nh [] (tL q h Nh [] (λu i1=>(Cm u [(5,(Z5 i1))] [])) (λu x_=>match x_ with|(.inl _)=>aG Γ (.exit 0) (⟨[],[],[]⟩:St)|(.inr r_)=>aR (AE Γ v2 v17 r_)) (λi1 y h=>Af q [0,1,5,14] [] (gC h (λh=>tC h λc2_ h=>tC h λc3_ h=>tU q [0,1,5,25] [] (c2 c2_ c3_) (gC h (λh=>Af q [4] [] (tS h (gO (Lo (H7 [] (Le.refl _ _)))))) λh=>Af q Nh [] (tN h))) λh=>tS h (gO (Be (Bg [] [] q))))) λx4 h=>(match x4,h with | .inl _,h=>gA (Af q [4] [] (tS h (Ca []))) | .inr r6,h=>O3 (λst' hk=>tS h (gK hk)))))
def C0(a0:TFunc)(i2:Int):J8->Option nD:=
 λ(i5,i6)=>Az (A1 i2 a0.Blocks.length) (bif bif decide (i6<(a0.Blocks.getD i2.toNat default).Phis.length) then decide (i5<=20000) else false then Az (A1 i2 a0.Blocks.length) (Az (A1 i6 (a0.Blocks.getD i2.toNat default).Phis.length) (Az (A1 i2 a0.Blocks.length) (Az (A1 i6 (a0.Blocks.getD i2.toNat default).Phis.length) (some (.next (w64 (w64 (w64 (i5+1)+((a0.Blocks.getD i2.toNat default).Phis.getD i6.toNat default).From.length)+((a0.Blocks.getD i2.toNat default).Phis.getD i6.toNat default).Args.length),w64 (i6+1))))))) else some (.done i5))
def C1(a0:TFunc)(i2:Int):J8->Option nD:=
 λ(i15,i16)=>Az (A1 i2 a0.Blocks.length) (bif bif decide (i16<(a0.Blocks.getD i2.toNat default).Ops.length) then decide (i15<=20000) else false then Az (A1 i2 a0.Blocks.length) (Az (A1 i16 (a0.Blocks.getD i2.toNat default).Ops.length) (some (.next (w64 (w64 (i15+1)+((a0.Blocks.getD i2.toNat default).Ops.getD i16.toNat default).Args.length),w64 (i16+1))))) else some (.done i15))
def C2(a0:TFunc):J8->Option nD:=
 λ(i1,i2)=>bif bif decide (i2<a0.Blocks.length) then decide (i1<=20000) else false then Az (A1 i2 a0.Blocks.length) ((Ac   (C0 a0 i2) (w64 (w64 (i1+1)+(a0.Blocks.getD i2.toNat default).End.To.length),0)).bind λx13=>(Ac   (C1 a0 i2) (x13,0)).bind λx21=>some (.next (x21,w64 (i2+1)))) else some (.done i1)
def C9(a0:TFunc):Option Bool:=
 (Ac   (C2 a0) (a0.Params.length,0)).bind λx23=>some (decide (x23<=20000))
theorem Yb(h:C9 v0=some v3):sP 40 [(Vn v0)] [] (.bool v3) []:=
 sG Tryz.func40 λΓ q=>tW q [1] [1] La [1] (Af q H3 [1] (tL q h H3 [1] (λu (i1,i2)=>(Cm u [(3,(Z5 i1)),(4,(Z5 i2))] [])) (λu i3=>aG Γ (.exit 0) (⟨[(3,(Z5 i3))],[],[]⟩:St)) (λ⟨i1,i2⟩ y h=>tU q [1,3,4,18] [1] (c2 (gI ((decide (i2<(v0.Blocks.length:Int)))==true)) (Ml (decide (i2<(v0.Blocks.length:Int))))) (gC h (λh=>tV q H3 [1] h λh=>Af q Jv [1] (tL q h Jv [1] (λu (i5,i6)=>(Cm u [(3,(Z5 i5)),(5,(Z5 i6))] [])) (λu i7=>aG Γ (.exit 2) (Nb H3 [1] u [(3,(Z5 i7))] [])) (λ⟨i5,i6⟩ y h=>tC h λc8_ h=>tU q [1,3,4,5,44] [1] (c3 c8_ (gI ((decide (i6<(((v0.Blocks.getD i2.toNat default).Phis).length:Int)))==true)) (Ml (decide (i6<(((v0.Blocks.getD i2.toNat default).Phis).length:Int))))) (gC h (λh=>tC h λc9_ h=>tC h λc10_ h=>tC h λc11_ h=>tC h λc12_ h=>tU q Jv [1] (c4 c9_ c10_ c11_ c12_) (Af q Jv [1] (tN h))) λh=>tS h (gO (Be (Bg H3 [1] q))))) λx13 h=>gA (Af q IR [1] (tL q h IR [1] (λu (i15,i16)=>(Cm u [(3,(Z5 i15)),(6,(Z5 i16))] [])) (λu i17=>aG Γ (.exit 4) (Nb H3 [1] u [(3,(Z5 i17))] [])) (λ⟨i15,i16⟩ y h=>tC h λc18_ h=>tU q [1,3,4,6,85] [1] (c3 c18_ (gI ((decide (i16<(((v0.Blocks.getD i2.toNat default).Ops).length:Int)))==true)) (Ml (decide (i16<(((v0.Blocks.getD i2.toNat default).Ops).length:Int))))) (gC h (λh=>tC h λc19_ h=>tC h λc20_ h=>tU q IR [1] (c2 c19_ c20_) (Af q IR [1] (tN h))) λh=>tS h (gO (Be (Bg H3 [1] q))))) λx21 h=>gA (Af q H3 [1] (tN h)))))) λh=>tS h (gO (Be (Bg [3] [] q))))) λx23 h=>gA (Af q [2] [] (tS h (Ca [])))))
def Ce(a0:TFunc):J8->Option nD:=
 λ(i1,i2)=>bif decide (i2<a0.Blocks.length) then Az (A1 i2 a0.Blocks.length) (Az (A1 i2 a0.Blocks.length) (some (.next (w64 (w64 (w64 (i1+1)+(a0.Blocks.getD i2.toNat default).Ops.length)+(a0.Blocks.getD i2.toNat default).Phis.length),w64 (i2+1))))) else some (.done i1)
def rq(a0:TFunc)(x6:Int):=(bif (decide ((a0.Blocks.length:Int)<=16)) then(decide (x6<=100)) else false)
def vU(a0:TFunc)(x6:Int):=(bif (rq a0 x6) then true else(decide ((64:Int)<(a0.Blocks.length:Int))))
def D7(a0:TFunc):Option Bool:=
 (Ac   (Ce a0) (0,0)).bind λx6=>(C9 a0).bind λx8=>some (bif x8 then bif bif bif decide (a0.Blocks.length<=(16:Int)) then decide (x6<=100) else false then true else decide (64<(a0.Blocks.length:Int)) then true else decide (512<x6) else false)
theorem Ye(h:D7 v0=some v3):sP 11 [(Vn v0)] [] (.bool v3) []:=
 sG Tryz.func11 λΓ q=>tW q [1] [1] La [1] (Af q H3 [1] (tL q h H3 [1] (λu (i1,i2)=>(Cm u [(3,(Z5 i1)),(4,(Z5 i2))] [])) (λu i3=>aG Γ (.exit 0) (Nb La [1] u [(3,(Z5 i3))] [])) (λ⟨i1,i2⟩ y h=>Af q [1,3,4,9] [1] (gC h (λh=>tC h λc4_ h=>tC h λc5_ h=>tU q H3 [1] (c2 c4_ c5_) (Af q H3 [1] (tN h))) λh=>tS h (gO (Be (Bg La [1] q))))) λx6 h=>gA (tB h λx8 y8 h=>tT q [2] [] [(Z2 x8)] (ci (Yb y8) (LO (x8==true) (d4_ (gI ((x8==true)&&((decide ((v0.Blocks.length:Int)<=16))==true))) (gI (x8==true)) (show((x8==true)=true->((decide ((v0.Blocks.length:Int)<=16))=true->((x8==true)&&((decide ((v0.Blocks.length:Int)<=16))==true))=true)) from(λhg=>(aT hg))) (gI (x8==true)) (Yy ((x8==true)&&((rq v0 x6)==false)) (c7 (gI (x8==true)) (show((x8==true)=true->((rq v0 x6)=false->((x8==true)&&((rq v0 x6)==false))=true)) from(λhg=>(aF hg))) (gI (x8==true)) (gI ((x8==true)&&((vU v0 x6)==false))) (gI (x8==true)) (show((x8==true)=true->((vU v0 x6)=false->((x8==true)&&((vU v0 x6)==false))=true)) from(λhg=>(aF hg))) (Ml x8)))))) (tS h (Ca [])))))
def Bo(aS:Int):Option Bool:=
 some (bif decide (0<=aS) then decide (aS<=2147483647) else false)
theorem Cf(h:Bo v1=some v3):sP 95 [(Z5 v1)] [] (.bool v3) []:=
 sG Tryz.func95 λΓ q=>Af q [0] [] (tU q [2] [] (c2 (gI ((decide ((0:Int)<=v1))==true)) (Ml (decide ((0:Int)<=v1)))) (tS h (Ca [])))
def Gb(aQ:Ax):Int->Option (LR Int (Unit ⊕ Bool)):=
 λi1=>bif decide (i1<aQ.length) then Az (A1 i1 aQ.length) ((Bo (aQ.getD i1.toNat 0)).bind λx3=>bif !x3 then some (.done (.inr false)) else some (.next (w64 (i1+1)))) else some (.done (.inl ()))
def AG(Γ:H6)(aQ:Ax)(r:Bool):Exit->St->Prop:=fK Tryz.prog Γ Tryz.f94.results.toList [] (.bool r) []
def Dp(aQ:Ax):Option Bool:=
 (Ac   (Gb aQ) 0).bind λx4=>match x4 with | .inl _=>some (decide (aQ.length<=(64:Int))) | .inr r6=>some r6
theorem Hr(h:Dp v2=some v3):sP 94 [(Z6 v2)] [] (.bool v3) []:=
 sG Tryz.func94 λΓ q=>tW q [0] [] Rm [] (tL q h Rm [] (λu i1=>(Cm u [(3,(Z5 i1))] [])) (λu x_=>match x_ with|(.inl _)=>aG Γ (.exit 0) (Nb [0] [] u [] [])|(.inr r_)=>aR (AG Γ v2 r_)) (λi1 y h=>Af q [0,3,7] [] (gC h (λh=>tC h λc2_ h=>tB h λx3 y3 h=>tT q [0,3,15] [] [(Z2 x3)] (c2 c2_ (Cf y3)) (gC h (λh=>Af q [2] [] (tS h (gO (Lo (H7 [] (Le.refl _ _)))))) λh=>Af q Rm [] (tN h))) λh=>tS h (gO (Be (Bg [0] [] q))))) λx4 h=>(match x4,h with | .inl _,h=>gA (Af q [2] [] (tS h (Ca []))) | .inr r6,h=>O3 (λst' hk=>tS h (gK hk))))
def Ij(a0:TFunc):J8->Option nD:=
 λ(i1,i2)=>bif decide (i2<a0.Blocks.length) then Az (A1 i2 a0.Blocks.length) (Az (A1 i2 a0.Blocks.length) (some (.next (w64 (w64 (w64 (i1+(a0.Blocks.getD i2.toNat default).Phis.length)+(a0.Blocks.getD i2.toNat default).Ops.length)+1),w64 (i2+1))))) else some (.done i1)
def Cr(a0:TFunc):Option Int:=
 (Ac   (Ij a0) (0,0)).bind λx6=>some x6
theorem Hq(h:Cr v0=some v1):sP 23 [(Vn v0)] [] (.int .i64 v1) []:=
 sG Tryz.func23 λΓ q=>tW q [1] [1] La [1] (Af q H3 [1] (tL q h H3 [1] (λu (i1,i2)=>(Cm u [(3,(Z5 i1)),(4,(Z5 i2))] [])) (λu i3=>aG Γ (.exit 0) (⟨[(3,(Z5 i3))],[],[]⟩:St)) (λ⟨i1,i2⟩ y h=>Af q [1,3,4,9] [1] (gC h (λh=>tC h λc4_ h=>tC h λc5_ h=>tU q H3 [1] (c2 c4_ c5_) (Af q H3 [1] (tN h))) λh=>tS h (gO (Be (Bg [3] [] q))))) λx6 h=>gA (Af q [2] [] (tS h (Ca [])))))
end
end Go.Proofs.YtfhggcbcamamdaaGreat
