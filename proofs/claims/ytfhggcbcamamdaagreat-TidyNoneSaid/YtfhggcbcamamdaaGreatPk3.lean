/-
  The machine, the program's functions and the laws' arithmetic: part 3 of 6.
-/
import Derived.Test.YtfhggcbcamamdaaGreatPk2
import Derived.BigCall
import Derived.Lib.RowBridge
import Derived.Shelf.Slices.Clone
import Derived.Shelf.Slices.CompactI
import Derived.Shelf.Slices.In.SortNone
import Derived.Shelf.Sort.Plain
import Derived.Shelf.Spec.SlicesGrow
import Derived.Shelf.Spec.SlicesInsertGrow
import Derived.Sort.OwnSortedInts
import Derived.Test.YtfhggcbcamamdaaGreatProg
set_option linter.unusedSectionVars false
set_option linter.unusedVariables false
set_option linter.unusedSimpArgs false
namespace Go.Proofs.YtfhggcbcamamdaaGreat
noncomputable section
open Go Go.RowKit
inductive rK where
 | nx (y:Code)
 | bl (id:Nat)
 | ag (c:Code) (n:Nat)
inductive Qd where
 | run (c:Code) (fs:List rK)
 | out (e:Exit) (fs:List rK)
def rG(P:Program)(Γ:H5)(K:Exit->St->Prop):List rK->Exit->St->Prop
 | []=>K
 | .nx y::fs=>u0 P Γ y (rG P Γ K fs)
 | .bl id::fs=>IX id (rG P Γ K fs)
 | .ag c n::fs=>λe st=>(e = .normal/\NK P Γ c (rG P Γ K fs) n st)\/(e≠.normal/\rG P Γ K fs e st)
def GG(P:Program)(Γ:H5)(K:Exit->St->Prop):Qd->St->Prop
 | .run c fs,st=>Zi P Γ c (rG P Γ K fs) st
 | .out e fs,st=>rG P Γ K fs e st
def AQ:Code->Nat->Nat
 | .exit i,k=>bif Nat.beq i k then 1 else 0
 | .seq a b,k=>Nat.min 2 (AQ a k+AQ b k)
 | .cond _ a b,k=>Nat.min 2 (AQ a k+AQ b k)
 | .loop c,k=>Nat.min 1 (AQ c k)
 | .scope c,k=>Nat.min 1 (AQ c k)
 | .block _ c,k=>AQ c k
 | _,_=>0
def T3:Code->Nat
 | .region _ _ _=>1
 | .skip=>1
 | .label _=>1
 | .seq a b=>bif Nat.beq (T3 a) 0 then 0 else T3 b
 | .cond _ a b=>Nat.min 2 (T3 a+T3 b)
 | .block i c=>Nat.min 2 (T3 c+AQ c i)
 | .scope c=>Nat.min 2 (T3 c)
 | _=>0
def o6(a:Code):Bool:=match a with | .region _ _ _=>false|a=>Nat.ble 2 (T3 a)
def QP:Nat->Code ⊕ Exit->List rK->Qd
 | 0,.inl c,fs=>.run c fs
 | 0,.inr e,fs=>.out e fs
 | n+1,.inl c,fs=>
  match c with
  | .skip=>QP n (.inr .normal) fs
  | .label _=>QP n (.inr .normal) fs
  | .seq a b=>bif o6 a then .run (.seq a b) fs else QP n (.inl a) (.nx b::fs)
  | .block id a=>QP n (.inl a) (.bl id::fs)
  | .exit id=>QP n (.inr (.exit id)) fs
  | .goto l=>QP n (.inr (.goto l)) fs
  | .ret=>QP n (.inr .ret) fs
  | c=>.run c fs
 | n+1,.inr e,fs=>
  match fs with
  | []=>.out e []
  | .nx y::fs=>(match e with | .normal=>QP n (.inl y) fs|e=>QP n (.inr e) fs)
  | .bl id::fs=>(match e with | .exit i=>bif Nat.beq i id then QP n (.inr .normal) fs else QP n (.inr (.exit i)) fs|e=>QP n (.inr e) fs)
  | .ag c m::fs=>(match e with | .normal=>(match m with|0=>.out .normal (.ag c 0::fs)|m+1=>QP n (.inl c) (.ag c m::fs))|e=>QP n (.inr e) fs)
section
variable {P:Program} {Γ:H5} {K:Exit->St->Prop}
theorem Ca:∀(n:Nat) (x:Code ⊕ Exit) (fs:List rK) (st:St),GG P Γ K (QP n x fs) st->(match x with | .inl c=>Zi P Γ c (rG P Γ K fs) st | .inr e=>rG P Γ K fs e st)
 | 0,.inl c,fs,st,h=>h
 | 0,.inr e,fs,st,h=>h
 | n+1,.inl c,fs,st,h=>by
  cases c with
  | skip=>exact ny (Ca n _ fs st h)
  | label l=>exact k7 (Ca n _ fs st h)
  | seq a b=>
   cases hj:o6 a with
   | true=>simp only[QP,hj]at h;exact h
   | false=>simp only[QP,hj]at h;exact iu (Ca n (.inl a) _ st h)
  | block id a=>exact k6 (Ca n (.inl a) _ st h)
  | exit id=>exact nr (Ca n _ fs st h)
  | goto l=>exact nt (Ca n _ fs st h)
  | ret=>exact sO (Ca n (.inr .ret) fs st h)
  | _=>exact h
 | n+1,.inr e,[],st,h=>h
 | n+1,.inr e,.nx y::fs,st,h=>by
  cases e with
  | normal=>exact Ca n (.inl y) fs st h
  | exit i=>exact Ca n _ fs st h
  | goto l=>exact Ca n _ fs st h
  | ret=>exact Ca n (.inr .ret) fs st h
  | panic c=>exact Ca n _ fs st h
  | outgrown=>exact Ca n _ fs st h
 | n+1,.inr e,.bl id::fs,st,h=>by
  cases e with
  | normal=>exact Ca n _ fs st h
  | exit i=>
   cases hb:Nat.beq i id with
   | true=>
    obtain rfl:=C3 hb;simp only[QP,hb]at h;exact fX (Ca n _ fs st h)
   | false=>
    simp only[QP,hb]at h;exact fW hb (Ca n _ fs st h)
  | goto l=>exact Ca n _ fs st h
  | ret=>exact Ca n (.inr .ret) fs st h
  | panic c=>exact Ca n _ fs st h
  | outgrown=>exact Ca n _ fs st h
 | n+1,.inr e,.ag c m::fs,st,h=>by
  cases e with
  | normal=>
   cases m with
   | zero=>exact h
   | succ m=>exact .inl ⟨rfl,Ca n (.inl c) _ st h⟩
  | exit i=>exact .inr ⟨(by intro hh;cases hh),Ca n _ fs st h⟩
  | goto l=>exact .inr ⟨(by intro hh;cases hh),Ca n _ fs st h⟩
  | ret=>exact .inr ⟨(by intro hh;cases hh),Ca n (.inr .ret) fs st h⟩
  | panic ch=>exact .inr ⟨(by intro hh;cases hh),Ca n _ fs st h⟩
  | outgrown=>exact .inr ⟨(by intro hh;cases hh),Ca n _ fs st h⟩
theorem Lu{n:Nat}{c:Code}{fs:List rK}{st:St}(h:GG P Γ K (QP n (.inl c) fs) st):Zi P Γ c (rG P Γ K fs) st:=Ca n _ fs st h
theorem BA{n:Nat}{e:Exit}{fs:List rK}{st:St}(h:GG P Γ K (QP n (.inr e) fs) st):rG P Γ K fs e st:=Ca n _ fs st h
def un(c:Code)(fs:List rK):Qd:=QP 400 (.inl c) fs
def exC(e:Exit)(fs:List rK):Qd:=QP 400 (.inr e) fs
def tQ:Qd->Qd
 | .run _ fs=>exC .normal fs
 | x=>x
def tc:Qd->Option (List Oper×Bool)
 | .run (.region _ ops draw) _=>some (ops.toList,draw)
 | _=>none
def rF(P:Program)(S:GO)(n:Nat)(cs:List (Nat×AV))(live names:List Nat)(x:Qd)(st:St)(rs:List Vj):Option (St×List Prop×Bool):=
 match tc x with
 | some (ops,draw)=>NP P S n cs live names ops draw st rs
 | none=>none
def tR(P:Program)(S:GO)(n:Nat)(cs:List (Nat×AV))(live names:List Nat)(x:Qd)(st:St)(rs:List Vj):St:=
 match rF P S n cs live names x st rs with
 | some r=>r.1
 | none=>st
def rH(r:Option (St×List Prop×Bool)):Option (Prop×Bool):=
 match r with
 | some r=>some (cU r.2.1,r.2.2)
 | none=>none
theorem gR{x:Qd}{st:St}{n:Nat}{H:List (Nat×Own)}(q:RgQ P Γ n H)(live names:List Nat)(cs:List (Nat×AV))(rs:List Vj){O:Prop}(hO:O)
  (k:GG P Γ K (tQ x) (tR P (Spec P) n cs live names x st rs))
  (h:rH (rF P (Spec P) n cs live names x st rs)=some (O,true):=by kernel_rfl) (hh:(H.all λx=>Bw x.1 names)=true:=by kernel_rfl):GG P Γ K x st:=by
 unfold rF at h;unfold tR rF at k
 cases x with
 | out e fs=>simp[tc,rH]at h
 | run c fs=>
  cases c with
  | region id ops draw=>
   simp only[tc]at h k
   cases hr:NP P _ n cs _ _ _ _ st rs with
   | none=>rw[hr]at h;simp[rH]at h
   | some r=>
    obtain⟨st',obs,d⟩:=r;rw[hr]at h k;obtain⟨rfl,rfl⟩:=h;have:=fU (id:=id)  q.hn q.mix (q.hand hh) hr hO (BA k);exact(by simpa using this:Zi P Γ _ _ st)
  | _=>simp[tc,rH]at h
theorem Af{x:Qd}{st:St}{n:Nat}{H:List (Nat×Own)}(q:RgQ P Γ n H)(live names:List Nat)
  (k:GG P Γ K (tQ x) (tR P (Spec P) n [] live names x st []))
  (h:rH (rF P (Spec P) n [] live names x st [])=some (True,true):=by kernel_rfl) (hh:(H.all λx=>Bw x.1 names)=true:=by kernel_rfl):GG P Γ K x st:=gR q _ _ [] [] trivial k h hh
def uq:Qd->Bool | .run _ _=>true|_=>false
theorem gLe{x:Qd}{st st':St}(h:Le Γ st st')
  (k:GG P Γ K x st')
  (hx:uq x=true:=by kernel_rfl):GG P Γ K x st:=by
 cases x with
 | run c fs=>exact fT h k
 | out e fs=>cases hx
theorem Qc{x:Qd}{st:St}(st':St)
  (k:GG P Γ K x st')
  (h:st=st':=by kernel_rfl):GG P Γ K x st:=h▸k
def oR(x:Qd)(st:St):AV:=match x with | .run (.cond c _ _) _=>cd st.get c|_=>.any
def yW(b:Bool):Qd->Qd
 | .run (.cond _ c d) fs=>un (bif b then c else d) fs
 | x=>x
theorem gC{x:Qd}{st:St}{R:Type}{b:Bool}{m1 m2:Option R}{r:R}(h:(bif b then m1 else m2)=some r)
  (kt:m1=some r->GG P Γ K (yW true x) st) (kf:m2=some r->GG P Γ K (yW false x) st)
  (hv:oR x st = .bool b:=by kernel_rfl):GG P Γ K x st:=by
 cases x with
 | out e fs=>cases hv
 | run c fs=>
  cases c with
  | cond c y z=>
   refine cL b hv (λhb=>Lu  (kt ?_)) (λhb=>Lu  (kf ?_))
   ·subst hb;exact h
   ·subst hb;exact h
  | _=>cases hv
theorem oi{x:Qd}{st:St}(b:Bool)
  (k:GG P Γ K (yW b x) st)
  (hv:oR x st = .bool b:=by kernel_rfl):GG P Γ K x st:=by
 cases x with
 | out e fs=>cases hv
 | run c fs=>
  cases c with
  | cond c y z=>
   refine cL b hv (λhb=>Lu (n:=400) ?_) (λhb=>Lu (n:=400) ?_)
   ·subst hb;exact k
   ·subst hb;exact k
  | _=>cases hv
theorem yf{x:Qd}{st:St}(pos:Bool)(n:Nat)
  (kt:(pos=true->n=0)->GG P Γ K (yW true x) st) (kf:(pos=false->n=0)->GG P Γ K (yW false x) st)
  (hv:oR x st = .nilq pos n:=by kernel_rfl):GG P Γ K x st:=by
 cases x with
 | out e fs=>cases hv
 | run c fs=>
  cases c with
  | cond c y z=>exact nw pos n hv (λhb=>Lu  (kt hb)) (λhb=>Lu  (kf hb))
  | _=>cases hv
theorem gB{R:Type}{c:Bool}{m1 m2:Option R}{r:R}{G:Prop}(h:(bif c then m1 else m2)=some r)(kt:c=true->m1=some r->G)(kf:c=false->m2=some r->G):G:=by
 grind
theorem eqB(F:Bool->Prop){c b:Bool}(hs:c=b)(h:F c):F b:=hs▸h
theorem gK{x:Qd}{st:St}{e:Exit}(h:K e st)(hx:x = .out e []:=by kernel_rfl):GG P Γ K x st:=by subst hx;exact h
def aG(Γ:H5)(e0:Exit)(og:St):Exit->St->Prop:=λe st=>e=e0/\Le Γ st og
def aR(K:Exit->St->Prop):Exit->St->Prop:=λe st=>e = .ret/\K e st
theorem Bd{e0:Exit}{og st:St}(h:Le Γ st og):aG Γ e0 og e0 st:=⟨rfl,h⟩
theorem Lm{st:St}(h:K .ret st):aR K .ret st:=⟨rfl,h⟩
def isN:Exit->Bool | .normal=>true|_=>false
theorem gN{S X:Type}{x:Qd}{st:St}{H:S->St}{KX:X->Exit->St->Prop}{s':S}(h:Le Γ st (H s'))(hx:x = .out .normal []:=by kernel_rfl):GG P Γ (FO Γ H KX (.next s')) x st:=by
 subst hx;exact⟨rfl,h⟩
theorem gO{S X:Type}{x:Qd}{st:St}{H:S->St}{KX:X->Exit->St->Prop}{y:X}{e:Exit}(h:KX y e st)(hx:x = .out e []:=by kernel_rfl)(hn:isN e=false:=by kernel_rfl):GG P Γ (FO Γ H KX (.done y)) x st:=by
 subst hx;exact⟨(by rintro rfl;cases hn),h⟩
def fK(P:Program)(Γ:H5)(rs:List ResultVar)(H:List (Nat×Own))(res:AV)(H':List (Nat×Own)):Exit->St->Prop:=clK Γ (zF P rs H res H')
theorem H6{rs:List ResultVar}{H H':List (Nat×Own)}{res:AV}{st st':St}{e:Exit}(ρ:List (Nat×Nat))(hl:Le Γ st st')(hr:js P rs ρ H st'=some (res,H'):=by kernel_rfl)
  (he:(match e with | .ret=>true | .normal=>true|_=>false)=true:=by kernel_rfl):fK P Γ rs H res H' e st:=by
 refine⟨st',hl,?_,ρ,hr⟩
 cases e with
 | ret=>exact .inl rfl
 | normal=>exact .inr rfl
 | _=>cases he
theorem Cc{rs:List ResultVar}{H H':List (Nat×Own)}{res:AV}{x:Qd}{st:St}(ρ:List (Nat×Nat))(hr:js P rs ρ H st=some (res,H'):=by kernel_rfl)
  (hx:x = .out .ret []:=by kernel_rfl):GG P Γ (fK P Γ rs H res H') x st:=gK  (H6 ρ (Le.refl _ _) hr) hx
def ZG(fn:Func):Code:=match fn.body with|some c=>c|none=>.skip
theorem JY {f : FuncId} {fn : Func} {args : List AV} {H H' : List (Nat × Own)} {res : AV} (hm : P.follows .mixedOrders = true) (hf : P.funcs[f]? = some fn)
    (k : ∀ Γ : H5, RgQ P Γ fn.ntmps H → GG P Γ (fK P Γ fn.results.toList H res H') (un (ZG fn) []) (JC args H))
    (hb : fn.body.isSome = true := by kernel_rfl) (hname : (fn.name == "runtime.NumGoroutine") = false := by kernel_rfl) (hlen : Nat.ble args.length fn.ntmps = true := by kernel_rfl) (hpl : RG H = true := by kernel_rfl) : Spec P f args H res H' := by
  obtain ⟨c, hc⟩ := zzL83.1 hb
  have e : ZG fn = c := by unfold ZG; rw [hc]
  refine eD hf hc hname hlen (fun Γ hn hΓ => ?_) hpl; have := k Γ ⟨hn, hm, hΓ⟩; rw [e] at this; exact wB (Lu this)
theorem fx{st st':St}(h:st=st'):Le Γ st st':=h▸Le.refl Γ st
def ZU:Qd->Bool | .run (.loop _) _=>true|_=>false
def oA:Qd->Qd
 | .run (.loop c) _=>un c []
 | x=>x
def te(e:Exit):Qd->Qd
 | .run _ fs=>exC e fs
 | x=>x
def zC{α:Type}(k:Nat)(x:α):List (Nat×α)->List (Nat×α)
 | []=>[(k,x)]
 | (k',y)::l=>bif Nat.beq k k' then(k,x)::l else bif Nat.blt k k' then(k,x)::(k',y)::l else(k',y)::zC k x l
def th{α:Type}:List (Nat×α)->List (Nat×α)->List (Nat×α)
 | [],l=>l
 | (k,x)::r,l=>th r (zC k x l)
def Cl(st:St)(ts:List (Nat×AV))(os:List (Nat×Own))(fs:List (Nat×mT):=[]):St:=⟨th ts st.tmps,th os st.own,th fs st.fam⟩
def Ni(live names:List Nat)(st:St)(ts:List (Nat×AV))(os:List (Nat×Own))(fs:List (Nat×mT):=[]):St:=Hp live names (Cl st ts os fs)
theorem gL{S X:Type}{x:Qd}{st:St}{n:Nat}{Hf:List (Nat×Own)}(q:RgQ P Γ n Hf){f:S->Option (LR S X)}{s0:S}{y:X}(hx:Ac f s0=some y)(live names:List Nat)(H:St->S->St)(KX:St->X->Exit->St->Prop)
  (kb:∀ s y,f s=some y->GG P Γ (FO Γ (H (Hp live names st)) (KX (Hp live names st)) y) (oA x) (H (Hp live names st) s)) (ko:∀ e st',KX (Hp live names st) y e st'->GG P Γ K (te e x) st')
  (h0:Hp live names st=H (Hp live names st) s0:=by kernel_rfl) (hl:ZU x=true:=by kernel_rfl) (hh:(Hf.all λx=>Bw x.1 names)=true:=by kernel_rfl):GG P Γ K x st:=by
 cases x with
 | out e fs=>cases hl
 | run c fs=>
  cases c with
  | loop c=>
   refine fT  ?_ (cM _ f _ (λs y hy=>Lu (kb s y hy)) hx λe st' hk=>BA (ko e st' hk));rw[<- h0];exact Bi _ _ q rfl hh
  | _=>cases hl
theorem gL0{S X:Type}{x:Qd}{st:St}{f:S->Option (LR S X)}{s0:S}{y:X}(hx:Ac f s0=some y)(H:St->S->St)(KX:St->X->Exit->St->Prop)
  (kb:∀ s y,f s=some y->GG P Γ (FO Γ (H st) (KX st) y) (oA x) (H st s)) (ko:∀ e st',KX st y e st'->GG P Γ K (te e x) st')
  (h0:st=H st s0:=by kernel_rfl) (hl:ZU x=true:=by kernel_rfl):GG P Γ K x st:=by
 cases x with
 | out e fs=>cases hl
 | run c fs=>
  cases c with
  | loop c=>exact fT (fx h0) (cM _ f _ (λs y hy=>Lu (kb s y hy)) hx λe st' hk=>BA (ko e st' hk))
  | _=>cases hl
theorem gA{x:Qd}{f:Exit->Qd->Qd}{e0:Exit}{og:St}
  (k:GG P Γ K (f e0 x) og)
  (hr:uq (f e0 x)=true:=by kernel_rfl):∀ e st',aG Γ e0 og e st'->GG P Γ K (f e x) st':=by
 rintro e st' ⟨rfl,hl⟩;exact gLe hl k hr
theorem um{x:Qd}{f:Exit->Qd->Qd}{e0:Exit}{og:St}(k:∀ st',Le Γ st' og->GG P Γ K (f e0 x) st'):∀ e st',aG Γ e0 og e st'->GG P Γ K (f e x) st':=by
 rintro e st' ⟨rfl,hl⟩;exact k st' hl
theorem O3{x:Qd}{f:Exit->Qd->Qd}{K':Exit->St->Prop}(k:∀ st',K' .ret st'->GG P Γ K (f .ret x) st'):∀ e st',aR K' e st'->GG P Γ K (f e x) st':=by
 rintro e st' ⟨rfl,hl⟩;exact k st' hl
theorem gU{x:Qd}{st:St}(n:Nat)
  (k:GG P Γ K (match x with | .run (.loop c) fs=>un c (.ag c n::fs)|x=>x) st)
  (hl:ZU x=true:=by kernel_rfl):GG P Γ K x st:=by
 cases x with
 | out e fs=>cases hl
 | run c fs=>
  cases c with
  | loop c=>exact fV (n+1) (Lu k)
  | _=>cases hl
def yi:Qd->Bool | .run (.seq _ _) _=>true|_=>false
def yg:Qd->Qd
 | .run (.seq a _) _=>un a []
 | x=>x
def zE(e:Exit):Qd->Qd
 | .run (.seq _ b) fs=>exC e (.nx b::fs)
 | x=>x
theorem gJ{X:Type}{x:Qd}{st:St}{m:Option X}{y:X}(hx:m=some y)(KX:X->Exit->St->Prop)
  (kb:∀ y,m=some y->GG P Γ (KX y) (yg x) st) (ko:∀ e st',KX y e st'->GG P Γ K (zE e x) st')
  (hs:yi x=true:=by kernel_rfl):GG P Γ K x st:=by
 cases x with
 | out e fs=>cases hs
 | run c fs=>
  cases c with
  | seq a b=>exact iu (nu KX hx (λy hy=>Lu (kb y hy)) λe st' hk=>BA (ko e st' hk))
  | _=>cases hs
def sv:Qd->Bool | .run (.scope _) _=>true|_=>false
def zG:Qd->Code | .run (.scope c) _=>c|_=>.skip
def ym(c:Code)(l:Nat):Qd:=un ((findLabel c l).getD .skip) []
theorem gS{S X:Type}{x:Qd}{st:St}{f0:Option (LR S X)}{f:S->Option (LR S X)}{y:X}(hx:Rx f0 f=some y)(lab:S->Nat)(H:S->St)(KX:X->Exit->St->Prop)
  (k0:∀ y,f0=some y->GG P Γ (PU Γ (zG x) lab H KX y) (un (zG x) []) st) (kb:∀ s y,f s=some y->GG P Γ (PU Γ (zG x) lab H KX y) (ym (zG x) (lab s)) (H s)) (ko:∀ e st',KX y e st'->GG P Γ K (te e x) st')
  (hs:sv x=true:=by kernel_rfl):GG P Γ K x st:=by
 cases x with
 | out e fs=>cases hs
 | run c fs=>
  cases c with
  | scope c=>
   refine k8 lab H f0 f KX (λy hy=>Lu (k0 y hy)) (λs y rest hf hy=>?_) hx λe st' hk=>BA (ko e st' hk);have:=kb s y hy;unfold ym zG at this;rw[hf]at this;exact Lu this
  | _=>cases hs
theorem fg{S X:Type}{x:Qd}{st:St}{c:Code}{lab:S->Nat}{H:S->St}{KX:X->Exit->St->Prop}{s':S}(h:Le Γ st (H s'))(hx:x = .out (.goto (lab s')) []:=by kernel_rfl)(hf:(findLabel c (lab s')).isSome=true:=by kernel_rfl) :
  GG P Γ (PU Γ c lab H KX (.next s')) x st:=by
 subst hx;exact⟨rfl,hf,h⟩
theorem ee{S X:Type}{x:Qd}{st:St}{c:Code}{lab:S->Nat}{H:S->St}{KX:X->Exit->St->Prop}{y:X}{e:Exit}(h:KX y e st)(hx:x = .out e []:=by kernel_rfl)
  (hf:(match e with | .goto l=>(findLabel c l).isNone|_=>true)=true:=by kernel_rfl):GG P Γ (PU Γ c lab H KX (.done y)) x st:=by
 subst hx;refine⟨?_,h⟩;rintro l rfl
 simpa using hf
theorem Sa{α:Type}{st:St}(U:α->St->St){a b:α}(h:a=b)(h1:st=U a st:=by kernel_rfl):Le Γ st (U b st):=by subst h;exact fx h1
theorem leB{st:St}(F F':Bool->St->St)(g:Bool)(h1:st=F g st:=by kernel_rfl)(ht:F true st=F' true st:=by kernel_rfl)(hf:F false st=F' false st:=by kernel_rfl):Le Γ st (F' g st):=by
 refine fx (h1.trans ?_)
 cases g<;>assumption
def Own.withF(g:Nat->List AV):Own->Own
 | .arr sz e n _=>.arr sz e n g
 | o=>o
def ug(st:St)(nm:Nat):Option (Nat×(Nat->List AV)):=match Aj st.own nm with|some (.arr _ _ n f)=>some (n,f)|_=>none
def zI(nm:Nat)(g:Nat->List AV)(st:St):St:=⟨st.tmps,(match Aj st.own nm with|some o=>Eg st.own nm (o.withF g)|none=>st.own),st.fam⟩
theorem RD{nm sz n:Nat}{e:TypeId}{f g:Nat->List AV}(hp:∀ k,k<n->AVleL (f k) (g k)):∀{l:List (Nat×Own)},Aj l nm=some (.arr sz e n f)->OwnsLe l (Eg l nm (.arr sz e n g))
 | [],h=>by cases h
 | (k,o)::l,h=>by
  simp only[Aj]at h;simp only[Eg]
  cases hb:Nat.beq k nm with
  | true=>
   obtain rfl:=C3 hb;rw[hb]at h;simp only[Ah,Ao]at h;subst h;exact .arr hp (.refl _)
  | false=>
   rw[hb]at h;exact .same (RD hp h)
theorem Sr{st:St}(nm:Nat){n:Nat}{f g:Nat->List AV}(hp:∀ k,k<n->AVleL (f k) (g k))(h:ug st nm=some (n,f):=by kernel_rfl):Le Γ st (zI nm g st):=by
 unfold ug at h;unfold zI
 cases ho:Aj _ nm with
 | none=>rw[ho]at h;cases h
 | some o=>
  rw[ho]at h
  cases o with
  | arr sz e n' f'=>
   obtain⟨rfl,rfl⟩:=h;exact I8 (TmpsLe.refl _) (RD hp ho)
  | _=>cases h
def oN(st:St)(nm j:Nat):Option AV:=match Aj st.own nm with|some (.row _ cells)=>cells[j]? | _=>none
def Own.withC(j:Nat)(x:AV):Own->Own
 | .row e cells=>.row e (cells.set j x)
 | o=>o
def zH(nm j:Nat)(x:AV)(st:St):St:=⟨st.tmps,(match Aj st.own nm with|some o=>Eg st.own nm (o.withC j x)|none=>st.own),st.fam⟩
theorem jW{a b:AV}(h:AVle a b):∀{l:List AV} {j:Nat},l[j]?=some a->AVleL l (l.set j b)
 | [],j,h=>by simp at h
 | x::l,0,h'=>by
  simp only[List.getElem?_cons_zero,Ao]at h';subst h';exact .cons h (.refl _)
 | x::l,j+1,h'=>by
  exact .cons (.refl _) (jW h h')
theorem RE{nm:Nat}{e:TypeId}{x y:List AV}(hp:AVleL x y):∀{l:List (Nat×Own)},Aj l nm=some (.row e x)->OwnsLe l (Eg l nm (.row e y))
 | [],h=>by cases h
 | (k,o)::l,h=>by
  simp only[Aj]at h;simp only[Eg]
  cases hb:Nat.beq k nm with
  | true=>
   obtain rfl:=C3 hb;rw[hb]at h;simp only[Ah,Ao]at h;subst h;exact .row hp (.refl _)
  | false=>
   rw[hb]at h;exact .same (RE hp h)
theorem s8{st:St}(nm j:Nat){a b:AV}(hp:AVle a b)(h:oN st nm j=some a:=by kernel_rfl):Le Γ st (zH nm j b st):=by
 unfold oN at h;unfold zH
 cases ho:Aj _ nm with
 | none=>rw[ho]at h;cases h
 | some o=>
  rw[ho]at h
  cases o with
  | row e cells=>exact I8 (TmpsLe.refl _) (RE (jW hp h) ho)
  | _=>cases h
theorem gI(g:Bool):g=true->g=true:=id
theorem Nh(c:Bool):c=true->(c==true)=true:=gT
theorem Ng(c:Bool):c=false->(c==false)=true:=gF
theorem Bp{α:Type}(sz:Nat)(e:α->List AV)(d:α)(l:List α):AVle (.slice sz l.length (λi=>(l.map e).getD i []) .exact) (AV.list sz e d l .exact):=ZF rfl λi h=>tJ l i h
theorem B0{α:Type}(sz:Nat)(e:α->List AV)(d:α):AVle (.slice 0 0 (λ_=>[]) .exact) (AV.list sz e d [] .exact):=El
theorem Iz{α:Type}(sz nm:Nat)(e:α->List AV)(d:α)(l m:List α):AVle (.slice sz (l.length+m.length) (O0 l.length (λi=>e (l.getD i d)) (λi=>e (m.getD i d))) (.own nm)) (AV.list sz e d (l++m) (.own nm)):=wA
theorem Iq{st st':St}(h:st=st':=by kernel_rfl):Le Γ st st':=h▸Le.refl Γ st
theorem ci{p q:Prop}(a:p)(b:q):p/\q:=⟨a,b⟩
theorem c1{p:Prop}(a:p):p/\True:=⟨a,trivial⟩
end
section
variable {P:Program} {Γ:H5} {K:Exit->St->Prop}
theorem tB{α β:Type}{m:Option α}{f:α->Option β}{r:β}{G:Prop}(h:m.bind f=some r)(k:∀ x,m=some x->f x=some r->G):G:=have⟨x,hx,h⟩:=bind_some h;k x hx h
theorem tC{β:Type}{c:Prop}[Decidable c]{m:Option β}{r:β}{G:Prop}(h:A0 c m=some r)(k:c->m=some r->G):G:=k (Qi h).1 (Qi h).2
@[elab_as_elim] theorem tS{α:Type}{a:α}{M:α->Prop}{b:α}(h:some a=some b)(k:M a):M b:=OI h▸k
theorem tV{x:Qd}{st:St}{n:Nat}{H:List (Nat×Own)}(q:RgQ P Γ n H)(live names:List Nat){β:Type}{c:Prop}[Decidable c]{m:Option β}{r:β}(h:A0 c m=some r)
  (k:m=some r->GG P Γ K (tQ x) (tR P (Spec P) n [] live names x st []))
  (h1:rH (rF P (Spec P) n [] live names x st [])=some (c/\True,true):=by kernel_rfl) (hh:(H.all λx=>Bw x.1 names)=true:=by kernel_rfl):GG P Γ K x st:=gR q live names [] [] (c1 (Qi h).1) (k (Qi h).2) h1 hh
theorem tN{S X:Type}{x:Qd}{st:St}{H:S->St}{KX:X->Exit->St->Prop}{s':S}{y:LR S X}(h:some (.next s')=some y)(h1:st=H s':=by kernel_rfl)(hx:x = .out .normal []:=by kernel_rfl):GG P Γ (FO Γ H KX y) x st:=OI h▸gN (Iq h1) hx
theorem tL{S X α:Type}{x:Qd}{st:St}{n:Nat}{Hf:List (Nat×Own)}(q:RgQ P Γ n Hf){f:S->Option (LR S X)}{s0:S}{g:X->Option α}{r:α}(h:(Ac f s0).bind g=some r)(live names:List Nat)(H:St->S->St)(KX:St->X->Exit->St->Prop)
  (kb:∀ s y,f s=some y->GG P Γ (FO Γ (H (Hp live names st)) (KX (Hp live names st)) y) (oA x) (H (Hp live names st) s)) (ko:∀ y,g y=some r->∀ e st',KX (Hp live names st) y e st'->GG P Γ K (te e x) st')
  (h0:Hp live names st=H (Hp live names st) s0:=by kernel_rfl) (hl:ZU x=true:=by kernel_rfl) (hh:(Hf.all λx=>Bw x.1 names)=true:=by kernel_rfl):GG P Γ K x st:=tB h λy hy h=>gL q hy live names H KX kb (ko y h) h0 hl hh
theorem tU{x:Qd}{st:St}{n:Nat}{H:List (Nat×Own)}(q:RgQ P Γ n H)(live names:List Nat){O:Prop}(hO:O)
  (k:GG P Γ K (tQ x) (tR P (Spec P) n [] live names x st []))
  (h:rH (rF P (Spec P) n [] live names x st [])=some (O,true):=by kernel_rfl) (hh:(H.all λx=>Bw x.1 names)=true:=by kernel_rfl):GG P Γ K x st:=gR q live names [] [] hO k h hh
theorem tT{x:Qd}{st:St}{n:Nat}{H:List (Nat×Own)}(q:RgQ P Γ n H)(live names:List Nat)(rs:List Vj){O:Prop}(hO:O)
  (k:GG P Γ K (tQ x) (tR P (Spec P) n [] live names x st rs))
  (h:rH (rF P (Spec P) n [] live names x st rs)=some (O,true):=by kernel_rfl) (hh:(H.all λx=>Bw x.1 names)=true:=by kernel_rfl):GG P Γ K x st:=gR q live names [] rs hO k h hh
theorem tW{x:Qd}{st:St}{n:Nat}{H:List (Nat×Own)}(q:RgQ P Γ n H)(live names live2 names2:List Nat)
  (k:GG P Γ K (tQ (tQ x)) (tR P (Spec P) n [] live2 names2 (tQ x) (tR P (Spec P) n [] live names x st []) []))
  (h:rH (rF P (Spec P) n [] live names x st [])=some (True,true):=by kernel_rfl) (hh:(H.all λx=>Bw x.1 names)=true:=by kernel_rfl)
  (h2:rH (rF P (Spec P) n [] live2 names2 (tQ x) (tR P (Spec P) n [] live names x st []) [])=some (True,true):=by kernel_rfl) (hh2:(H.all λx=>Bw x.1 names2)=true:=by kernel_rfl):GG P Γ K x st:=Af q live names (Af q live2 names2 k h2 hh2) h hh
end
def cjO:List Own->Prop->Prop
 | [],p=>p
 | o::l,p=>some o=some o/\cjO l p
theorem tw:∀(l:List Own) {p:Prop},p->cjO l p
 | [],_,h=>h
 | _::l,_,h=>⟨rfl,tw l h⟩
theorem rkl(l:List Own):cjO l True:=tw l trivial
theorem M4{R:Prop}(g:Bool)(r:R):(g=true->g=true)/\((g=true->g=true)/\(R)):=⟨id,⟨id,r⟩⟩
theorem Vm{R:Prop}(g:Bool)(r:R):(g=true->g=true)/\((g=true->g=true)/\((g=true->g=true)/\(R))):=⟨id,⟨id,⟨id,r⟩⟩⟩
theorem ZR{R:Prop}(g:Bool)(r:R):(g=true->g=true)/\((g=true->g=true)/\((g=true->g=true)/\((g=true->g=true)/\(R)))):=⟨id,⟨id,⟨id,⟨id,r⟩⟩⟩⟩
theorem wT{R:Prop}(g:Bool)(r:R):(g=true->g=true)/\((g=true->g=true)/\((g=true->g=true)/\((g=true->g=true)/\((g=true->g=true)/\(R))))):=⟨id,⟨id,⟨id,⟨id,⟨id,r⟩⟩⟩⟩⟩
theorem gI6{R:Prop}(g:Bool)(r:R):(g=true->g=true)/\((g=true->g=true)/\((g=true->g=true)/\((g=true->g=true)/\((g=true->g=true)/\((g=true->g=true)/\(R)))))):=⟨id,⟨id,⟨id,⟨id,⟨id,⟨id,r⟩⟩⟩⟩⟩⟩
theorem gI7{R:Prop}(g:Bool)(r:R):(g=true->g=true)/\((g=true->g=true)/\((g=true->g=true)/\((g=true->g=true)/\((g=true->g=true)/\((g=true->g=true)/\((g=true->g=true)/\(R))))))):=⟨id,⟨id,⟨id,⟨id,⟨id,⟨id,⟨id,r⟩⟩⟩⟩⟩⟩⟩
theorem gI8{R:Prop}(g:Bool)(r:R):(g=true->g=true)/\((g=true->g=true)/\((g=true->g=true)/\((g=true->g=true)/\((g=true->g=true)/\((g=true->g=true)/\((g=true->g=true)/\((g=true->g=true)/\(R)))))))):=⟨id,⟨id,⟨id,⟨id,⟨id,⟨id,⟨id,⟨id,r⟩⟩⟩⟩⟩⟩⟩⟩
theorem gI9{R:Prop}(g:Bool)(r:R):(g=true->g=true)/\((g=true->g=true)/\((g=true->g=true)/\((g=true->g=true)/\((g=true->g=true)/\((g=true->g=true)/\((g=true->g=true)/\((g=true->g=true)/\((g=true->g=true)/\(R))))))))):=⟨id,⟨id,⟨id,⟨id,⟨id,⟨id,⟨id,⟨id,⟨id,r⟩⟩⟩⟩⟩⟩⟩⟩⟩
theorem ed{p0 p1 R:Prop}(a0:p0)(a1:p1)(r:R):p0/\p1/\R:=⟨a0,a1,r⟩
theorem c2{p0 p1:Prop}(a0:p0)(a1:p1):p0/\p1/\True:=⟨a0,a1,trivial⟩
theorem ZM{p0 p1 p2 R:Prop}(a0:p0)(a1:p1)(a2:p2)(r:R):p0/\p1/\p2/\R:=⟨a0,a1,a2,r⟩
theorem c3{p0 p1 p2:Prop}(a0:p0)(a1:p1)(a2:p2):p0/\p1/\p2/\True:=⟨a0,a1,a2,trivial⟩
theorem d4_{p0 p1 p2 p3 R:Prop}(a0:p0)(a1:p1)(a2:p2)(a3:p3)(r:R):p0/\p1/\p2/\p3/\R:=⟨a0,a1,a2,a3,r⟩
theorem c4{p0 p1 p2 p3:Prop}(a0:p0)(a1:p1)(a2:p2)(a3:p3):p0/\p1/\p2/\p3/\True:=⟨a0,a1,a2,a3,trivial⟩
theorem d5_{p0 p1 p2 p3 p4 R:Prop}(a0:p0)(a1:p1)(a2:p2)(a3:p3)(a4:p4)(r:R):p0/\p1/\p2/\p3/\p4/\R:=⟨a0,a1,a2,a3,a4,r⟩
theorem c5{p0 p1 p2 p3 p4:Prop}(a0:p0)(a1:p1)(a2:p2)(a3:p3)(a4:p4):p0/\p1/\p2/\p3/\p4/\True:=⟨a0,a1,a2,a3,a4,trivial⟩
theorem c6{p0 p1 p2 p3 p4 p5:Prop}(a0:p0)(a1:p1)(a2:p2)(a3:p3)(a4:p4)(a5:p5):p0/\p1/\p2/\p3/\p4/\p5/\True:=⟨a0,a1,a2,a3,a4,a5,trivial⟩
theorem c7{p0 p1 p2 p3 p4 p5 p6:Prop}(a0:p0)(a1:p1)(a2:p2)(a3:p3)(a4:p4)(a5:p5)(a6:p6):p0/\p1/\p2/\p3/\p4/\p5/\p6/\True:=⟨a0,a1,a2,a3,a4,a5,a6,trivial⟩
theorem d8_{p0 p1 p2 p3 p4 p5 p6 p7 R:Prop}(a0:p0)(a1:p1)(a2:p2)(a3:p3)(a4:p4)(a5:p5)(a6:p6)(a7:p7)(r:R):p0/\p1/\p2/\p3/\p4/\p5/\p6/\p7/\R:=⟨a0,a1,a2,a3,a4,a5,a6,a7,r⟩
theorem c8{p0 p1 p2 p3 p4 p5 p6 p7:Prop}(a0:p0)(a1:p1)(a2:p2)(a3:p3)(a4:p4)(a5:p5)(a6:p6)(a7:p7):p0/\p1/\p2/\p3/\p4/\p5/\p6/\p7/\True:=⟨a0,a1,a2,a3,a4,a5,a6,a7,trivial⟩
theorem d9_{p0 p1 p2 p3 p4 p5 p6 p7 p8 R:Prop}(a0:p0)(a1:p1)(a2:p2)(a3:p3)(a4:p4)(a5:p5)(a6:p6)(a7:p7)(a8:p8)(r:R):p0/\p1/\p2/\p3/\p4/\p5/\p6/\p7/\p8/\R:=⟨a0,a1,a2,a3,a4,a5,a6,a7,a8,r⟩
theorem c9{p0 p1 p2 p3 p4 p5 p6 p7 p8:Prop}(a0:p0)(a1:p1)(a2:p2)(a3:p3)(a4:p4)(a5:p5)(a6:p6)(a7:p7)(a8:p8):p0/\p1/\p2/\p3/\p4/\p5/\p6/\p7/\p8/\True:=⟨a0,a1,a2,a3,a4,a5,a6,a7,a8,trivial⟩
open Go.Shelf
def groRen:Go.Shelf.Ren:=⟨fun|4=>139|n=>n,fun|22=>60|25=>70|n=>n,fun|n=>n⟩
theorem jV : Go.Proofs.Lays8.n4 Tryz.prog groRen := {
  mixed := by kernel_rfl
  f4 := ⟨"slices.Grow[[]lockstep/api.Op,lockstep/api.Op]", by decide, Tryz.func139.trans (Bg some (by kernel_rfl))⟩
  t0 := Tryz.underlying0
  a0 := Tryz.isAgg0
  z0 := Tryz.sizeOf0
  v0 := Tryz.zeroValue0
  t3 := Tryz.underlying3
  a3 := Tryz.isAgg3
  z3 := Tryz.sizeOf3
  v3 := Tryz.zeroValue3
  t4 := Tryz.underlying4
  a4 := Tryz.isAgg4
  z4 := Tryz.sizeOf4
  v4 := Tryz.zeroValue4
  t9 := Tryz.underlying9
  a9 := Tryz.isAgg9
  z9 := Tryz.sizeOf9
  v9 := Tryz.zeroValue9
  t20 := Tryz.underlying20
  a20 := Tryz.isAgg20
  z20 := Tryz.sizeOf20
  v20 := Tryz.zeroValue20
  t22 := Tryz.underlying60
  a22 := Tryz.isAgg60
  z22 := Tryz.sizeOf60
  v22 := Tryz.zeroValue60 }
def g9{α:Type}(n:Int):Option (List α):=A0 (0<=n/\n<=1000000) (some [])
theorem jO{s:Nat}{e:TypeId}:Ax (Aj ([]:List (Nat×Own))) 20000 (.tok s e 0)=Aj [(20000,.tok s e 0)]:=by
 funext k
 by_cases h:k=20000
 ·subst h;simp[Ax,Aj]
 ·have h2:Nat.beq 20000 k=false:=by
   cases hb:Nat.beq 20000 k with
   | false=>rfl
   | true=>exact absurd (C3 hb).symm h
  simp[Ax,Aj,h,h2]
theorem qS{α:Type}(n:Int)(r:List α)(h:g9 n=some r){e:α->List AV}{d:α} :
  Spec Tryz.prog 139 [.slice 0 0 (λ_=>[]) .exact,.int .i64 n] [] (AV.list 6 e d r (.own 20000)) [(20000,.tok 6 70 r.length)]:=by
 obtain⟨⟨h0,h1⟩,h⟩:=Qi h;obtain rfl:=OI h;obtain⟨k,rfl⟩:=Int.eq_ofNat_of_zero_le h0;refine⟨enters_of Tryz.func139 (by kernel_rfl) rfl,λw I θ zs hargs hrel hval _=>?_⟩;obtain⟨zs⟩:=zs
 cases hargs with|cons hA t=>cases t with|cons hB t=>cases t with|nil=>
 obtain rfl:=Rep.int_inv hB
 obtain⟨a,hav⟩:∃ a,‹Value› = .slice a 0 0:=by
  cases hA with
  | val v x h=>cases h
  | exact a n sz f h=>exact⟨a,rfl⟩
 subst hav
 show Calls _ _ _ _ _
 have rep0:∀(I:Nat->Nat->Prop) (θ:Nat->Option (Nat×Nat)) (w:World) (a:Option Addr) (c:Nat),c<=maxLen->(a=none->c=0)->(match θ 20000 with|none=>c=0|some (g,c')=>a=some ⟨g,0,none⟩/\c=c')->
   Rep I (Aj [(20000,.tok 6 70 0)]) θ w (.slice a 0 c) (AV.list 6 e d [] (.own 20000)):=λI θ w a c hm hn hv=>
  .own 20000 _ 70 0 a 0 c _ rfl (zzL6 _) (λ_=>hv) (.slice a 0 c _ _ (λ_=>undef) (P6 _) hm (λh=>by omega) hn (λj hj=>by omega) (λi hi=>by omega) (λi c hi=>by omega))
 by_cases hk:k=0
 ·subst hk;refine(Any8.slices_Grow_room jV a 0 0 0 w (zzL6 _) (by decide) (by decide) (by decide)).mono ?_;rintro ev w' ⟨rfl,hw⟩;rw[hw];have hc:=CX (nm:=20000) (s:=6) (e:=70) (m':=0) (t':=none) (I':=I) (w':=w) hrel (λ_ _ h=>h) (λ_ _ _=>rfl) (.inl rfl) (λ_ _ _=>rfl) (λ_ _ h=>.inl h) hval rfl rfl rfl (zzL6 _)
   (λ_ _ h=>by cases h) (λ_ _ h=>by cases h) (λ_ _=>rfl)
  rw[jO]at hc;exact⟨_,I,_,rfl,hc,rep0 _ _ _ _ _ (P6 _) (λ_=>rfl) (by simp[thUp])⟩
 ·cases hi:Tryz.prog.info? 70 with
  | none=>exact absurd (show(Tryz.prog.info? 70).isSome=true by kernel_rfl) (by rw[hi];simp)
  | some i0=>
   have e1:(Tryz.prog.info? 70).map (·.size)=some 6:=by kernel_rfl
   have e2:((Tryz.prog.info? 70).bind (·.zero)).map (·.cells.size)=some 6:=by kernel_rfl
   have e3:Nat.ble (((Tryz.prog.info? 70).map (·.bytes)).getD 1000) 128=true:=by kernel_rfl
   rw[hi]at e1 e2 e3;simp only[FY,Ao,An,KJ]at e1 e2 e3;have e3:=K6 e3
   cases hz:i0.zero with
   | none=>rw[hz]at e2;cases e2
   | some z=>
    rw[hz]at e2;simp only[FY,Ao]at e2
    have hb:(0+k)*i0.bytes<=140737488355328:=by
     have:(0+k)*i0.bytes<=1000000*128:=Nat.mul_le_mul (by omega) e3;omega
    refine(Any8.slices_Grow_grow jV i0 z hi hz (by omega) a 0 0 k [] w (zzL6 _) (by omega) hb (by omega) (by simp) (λ_=>rfl) (λ_ _ j v h=>by simp at h)).mono ?_;rintro ev w' ⟨rfl,rfl⟩;have hG:=grownCap_ge w (0+k) 0 70;have hG2:grownCap w (0+k) 0 70<=maxLen:=grownCap_le_maxLen w _ _ _ (by unfold maxLen;omega);have hG':grownCap w (0+k) 0 (groRen.t 25)=grownCap w (0+k) 0 70:=rfl;rw[hG']
    generalize grownCap w (0+k) 0 70=G at hG hG2
    have hlt:∀ b o,I b o->b<w.heap.size:=λb o hi=>by
     obtain⟨u,hu⟩:=hval b o hi;exact Od hu
    have hold:∀(ob:Obj) (b:Nat),b<w.heap.size->(w.drew.alloc ob).heap[b]?=w.heap[b]?:=λob b hb=>by
     show(w.heap.push ob)[b]?=_
     rw[Array.getElem?_push,if_neg (Nat.ne_of_lt hb)]
    have hcell:∀(ob:Obj) (b o:Nat),I b o->(w.drew.alloc ob).cell? ⟨b,o,none⟩=w.cell? ⟨b,o,none⟩:=λob b o hi=>EV (a:=⟨b,o,none⟩) (hold ob b (hlt b o hi));have hc:=CX (nm:=20000) (s:=6) (e:=70) (m':=0) (t':=some (w.heap.size,G)) (I':=I) (w':=w.drew.alloc (.cells (([]:List Value).toArray++Builtin.zeroCells z.cells (0+k-0)++Builtin.zeroCells z.cells (G-(0+k))) 70)) hrel (λ_ _ h=>h) (hcell _) (.inl rfl) (λb hb _=>hold _ b hb) (λ_ _ h=>.inl h)
     (λb o hi=>by rw[hcell _ b o hi];exact hval b o hi) rfl rfl rfl (by show w.heap.size<=(w.heap.push _).size;simp)
     (λg c h=>by
      obtain⟨rfl,rfl⟩:=Prod.mk.inj (OI h);refine⟨_,0,Y7 w.drew _,P6 _,hG2,?_,P6 _,λj hj=>absurd (hlt _ _ hj) (V2 _)⟩
      have hs:∀ x,((([]:List Value).toArray++Builtin.zeroCells z.cells (0+k-0))++Builtin.zeroCells z.cells x).size=(k+x)*6:=λx=>by
       simp only[Array.size_append,size_zeroCells,e2];simp[Gm]
      exact(hs _).trans (Bg (·*6) (by omega)))
     (λg c h=>by
      obtain⟨rfl,rfl⟩:=Prod.mk.inj (OI h)
      exact .inl (zzL6 _)) (λh=>by cases h)
    rw[jO]at hc;exact⟨_,I,_,rfl,hc,rep0 _ _ _ _ _ hG2 (λh=>by cases h) (by simp[thUp])⟩
def insRen:Go.Shelf.Ren:=⟨fun|21=>193|27=>236|28=>237|35=>276|39=>196|n=>n,fun|22=>22|n=>n,fun|n=>n⟩
theorem HF:Go.Proofs.Lays2.n21 Tryz.prog insRen:={
 mixed:=by kernel_rfl
 f21:=Tryz.func193.trans (Bg some (by kernel_rfl))
 f27:=Tryz.func236.trans (Bg some (by kernel_rfl))
 f28:=Tryz.func237.trans (Bg some (by kernel_rfl))
 f35:=Tryz.func276.trans (Bg some (by kernel_rfl))
 f39:=Tryz.func196.trans (Bg some (by kernel_rfl))
 t0:=Tryz.underlying0
 a0:=Tryz.isAgg0
 z0:=Tryz.sizeOf0
 v0:=Tryz.zeroValue0
 t3:=Tryz.underlying3
 a3:=Tryz.isAgg3
 z3:=Tryz.sizeOf3
 v3:=Tryz.zeroValue3
 t4:=Tryz.underlying4
 a4:=Tryz.isAgg4
 z4:=Tryz.sizeOf4
 v4:=Tryz.zeroValue4
 t22:=Tryz.underlying22
 a22:=Tryz.isAgg22
 z22:=Tryz.sizeOf22
 v22:=Tryz.zeroValue22
 i3:=by kernel_rfl }
def UI(w:World)(g c:Nat):Prop:=∃ cur,w.heap[g]?=some (.cells cur 3 (0,0))/\cur.size=c
structure Lk(w w':World)(g:Nat):Prop where
 os:w'.os=w.os
 tape:w'.tape=w.tape
 output:w'.output=w.output
 drawn:w.drawn<=w'.drawn
 size:w.heap.size<=w'.heap.size
 other:∀ b,b<w.heap.size->b≠g->w'.heap[b]?=w.heap[b]?
 blk:∀ c,UI w g c->UI w' g c
theorem Lk.refl(w:World)(g:Nat):Lk w w g:=⟨rfl,rfl,rfl,zzL6 _,zzL6 _,λ_ _ _=>rfl,λ_ h=>h⟩
theorem Lk.trans{w w' w'':World}{g:Nat}(h:Lk w w' g)(k:Lk w' w'' g):Lk w w'' g:=
 ⟨k.os.trans h.os,k.tape.trans h.tape,k.output.trans h.output,P5 h.drawn k.drawn,P5 h.size k.size,λb hb hn=>(k.other b (Nat.lt_of_lt_of_le hb h.size) hn).trans (h.other b hb hn),λc hc=>k.blk c (h.blk c hc)⟩
theorem DI(w:World)(g:Nat):Lk w w.drew g:=⟨rfl,rfl,rfl,Nat.le_succ _,zzL6 _,λ_ _ _=>rfl,λ_ h=>h⟩
theorem s9(w:World)(g o:Nat)(v:Value):Lk w (w.setCell ⟨g,o,none⟩ v) g:=
 ⟨rfl,rfl,rfl,zzL6 _,by simp[World.setCell],λb _ hn=>Below.heap_setCell w _ v b hn,λc ⟨cur,h1,h2⟩=>⟨_,heap_setCell_same w g o cur 3 v h1,by simpa using h2⟩⟩
theorem Wg(g:Nat):∀(vs:List Value) (o:Nat) (w:World),Lk w (w.setCells g o vs) g
 | [],_,w=>.refl w g
 | v::r,o,w=>(s9 w g o v).trans (Wg g r (o+1) _)
theorem QD{w:World}{ob:Obj}{g:Nat}(hg:w.heap.size<=g):Lk w (w.alloc ob) g:=
 ⟨rfl,rfl,rfl,zzL6 _,by show w.heap.size<=(w.heap.push ob).size;simp,λb hb _=>by show(w.heap.push ob)[b]?=_;rw[Array.getElem?_push,if_neg (Nat.ne_of_lt hb)],λc ⟨cur,h1,_⟩=>by
  rw[Array.getElem?_eq_none hg]at h1;cases h1⟩
theorem IW{w:World}(cs:Array Value):UI (w.alloc (.cells cs 3)) w.heap.size cs.size:=⟨cs,Y7 w _,rfl⟩
theorem ZE(vs:List Value)(Z:Array Value){j:Nat}(h:j<vs.length):(vs.toArray++Z)[j]?=vs[j]?:=by
 rw[Array.getElem?_append_left (by simpa using h)];simp
theorem Ta(l:List Int){j:Nat}(h:j<l.length):(l.map (Value.int .i64))[j]?=some (.int .i64 (l.getD j 0)):=by simp[List.getD,h]
theorem OW{w:World}{g c j:Nat}(h:UI w g c)(hj:j<c):(w.cell? ⟨g,j,none⟩).isSome=true:=by
 obtain⟨cur,h1,h2⟩:=h;rw[Nb _ _ _ cur 3 (0,0) h1,Array.getElem?_eq_getElem (by omega)];rfl
theorem NQ{w:World}{g c:Nat}(h:UI w g c)(j:Nat):w.frozen? ⟨g,j,none⟩=false:=by
 obtain⟨cur,h1,h2⟩:=h;simp[World.frozen?,h1]
theorem AO{w:World}{g c o:Nat}{vs:List Value}(hB:UI w g c)(ho:o+vs.length<=c)(j:Nat) :
  (w.setCells g o vs).cell? ⟨g,j,none⟩=if o<=j/\j<o+vs.length then vs[j-o]? else w.cell? ⟨g,j,none⟩:=by
 split
 ·rename_i h
  obtain⟨i,rfl⟩:∃ i,j=o+i:=⟨j-o,by omega⟩;rw[World.cell?_setCells_in g vs o w (λi hi=>OW hB (by omega)) i (by omega),Nat.add_sub_cancel_left,P4 (by omega)]
 ·rename_i h
  exact World.cell?_setCells_out g vs o w _ (λ_ _=>by show j<o\/o+vs.length<=j;omega)
def CD(l:List Int)(i:Int)(v:List Int):Option (List Int×List Int×List Int):=
 A0 (0<=i/\i<=l.length/\0<v.length/\l.length+v.length<=room) (some (l.take i.toNat++v++l.drop i.toNat,l.take i.toNat++v++l.drop i.toNat,v))
theorem jC{l:List Int}{j:Nat}{u:Value}(h:(l.map (Value.int .i64))[j]?=some u):j<l.length/\u = .int .i64 (l.getD j 0):=by
 rw[KG]at h;obtain⟨x,hx,rfl⟩:=zzL78.1 h;obtain⟨h1,h2⟩:=List.getElem?_eq_some_iff.1 hx;exact⟨h1,by simp[List.getD,hx]⟩
theorem de(l:List Int):∀ v∈l.map (Value.int .i64),v.oneCell'=true:=by
 intro v hv;obtain⟨x,_,rfl⟩:=zzL20.1 hv
 rfl
section
variable {I:Nat->Nat->Prop} {own:Nat->Option Own} {θ:Nat->Option (Nat×Nat)} {w w':World}
theorem rowI_at(hrel:Ji I own θ w){nm n:Nat}{f:Nat->List AV}{v:Value}{l:List Int}(hl:l.length=n)(ho:own nm=some (.arr 1 3 n f))(hf:∀ k,k<n->f k=[.int .i64 (l.getD k 0)])(h:Rep I own θ w v (.vsl nm n)) :
  (θ nm=none/\l=[]/\∃ a,v = .slice a 0 0)\/∃ g c,θ nm=some (g,c)/\v = .slice (some ⟨g,0,none⟩) n c/\n<=c/\c<=maxLen/\UI w g c/\(∀ j,j<n->w.cell? ⟨g,j,none⟩=some (.int .i64 (l.getD j 0)))/\∀ j,¬ I g j:=by
 obtain⟨sz,e2,m,f2,ad,cap,rfl,ho2,hm,hcap,hmax,hn,hv⟩:=h.vsl_inv;rw[ho]at ho2;simp only[Ao,Own.arr.injEq]at ho2;obtain⟨rfl,rfl,rfl,rfl⟩:=ho2;have hv:=hv rfl;obtain⟨k1,k2⟩:=hrel.arr nm _ _ _ _ ho
 cases hθ:θ nm with
 | none=>
  rw[hθ]at hv;simp only at hv;have:=k1 hθ;subst this;exact .inl ⟨rfl,zzL93.1 hl,ad,by rw[hv]⟩
 | some gc=>
  obtain⟨g,c⟩:=gc;rw[hθ]at hv;simp only at hv;obtain⟨rfl,rfl⟩:=hv;obtain⟨cur,q1,q2,q3,q4,q5,q6,q7⟩:=k2 g cap hθ;rw[Uh]at q4;refine .inr ⟨g,cap,rfl,rfl,q2,q3,⟨cur,q1,q4⟩,λj hj=>?_,q7⟩;obtain⟨_,q⟩:=q6 j 0 hj (by omega);rw[hf j hj,Uh,Na]at q;have q:=Rep.int_inv q;rw[Nb _ _ _ cur 3 (0,0) q1,<- q];simp only[Ri];rw[Array.getElem?_eq_getElem (by omega)]
  rfl
theorem fk(hrel:Ji I own θ w)(hval:∀ b o,I b o->∃ u,w.cell? ⟨b,o,none⟩=some u){nm n:Nat}{f:Nat->List AV}(ho:own nm=some (.arr 1 3 n f)){r:List Int}(hn:n<r.length){g c:Nat}(hc:r.length<=c)(hm:c<=maxLen)
  (hlk:Lk w w' g) (hblk:UI w' g c) (hcell:∀ j,j<r.length->w'.cell? ⟨g,j,none⟩=some (.int .i64 (r.getD j 0))) (hI:∀ j,¬ I g j) (hg:w.heap.size<=g\/∃ c',θ nm=some (g,c')) :
  ∃ v θ',Value.slice (some ⟨g,0,none⟩) r.length c=v/\Chg own θ I w (Ax own nm (.arr 1 3 r.length (λi=>[.int .i64 (r.getD i 0)]))) θ' I w'/\Rep I (Ax own nm (.arr 1 3 r.length (λi=>[.int .i64 (r.getD i 0)]))) θ' w' v (.vsl nm r.length):=by
 have hoth:∀ b o,I b o->w'.cell? ⟨b,o,none⟩=w.cell? ⟨b,o,none⟩:=λb o hi=>by
  obtain⟨u,hu⟩:=hval b o hi;exact EV (a:=⟨b,o,none⟩) (hlk.other b (Od hu) (λe=>hI o (e▸hi)))
 have hk:=Mb (nm:=nm) (s:=1) (e:=3) (m':=r.length) (f':=λi=>[.int .i64 (r.getD i 0)]) (t':=some (g,c)) (w':=w') hrel hval hoth (.inr ⟨n,f,ho,Nat.le_of_lt hn,λh=>by omega⟩)
  (λb hb hne=>hlk.other b hb (λe=>by
   subst e;rcases hg with hg|⟨c',hg⟩
   ·omega
   ·exact hne c' (by rw[ho];intro hh;cases hh) hg)) hlk.os hlk.tape hlk.output hlk.size (λhh=>by cases hh)
  (λg' c' hh=>by
   obtain⟨rfl,rfl⟩:=Prod.mk.inj (OI hh);obtain⟨cur,h1,h2⟩:=hblk;refine⟨cur,h1,hc,hm,by rw[h2,Uh],λ_ _=>rfl,λi j hi hj=>?_,hI⟩
   obtain rfl:j=0:=by omega
   have:=hcell i hi;rw[Nb _ _ _ cur 3 (0,0) h1]at this;rw[Uh,Na,Ri,this]
   exact⟨rfl,λ_=>.val _ _ (.int _ _)⟩)
  (λg' c' hh=>by
   obtain⟨rfl,rfl⟩:=Prod.mk.inj (OI hh);rcases hg with hg|⟨c',hg⟩
   ·exact .inl hg
   ·exact .inr ⟨(by rw[ho];intro hh;cases hh),c',hg⟩) hlk.drawn
 exact⟨_,_,rfl,hk,.vsl nm 1 3 r.length (λi=>[.int .i64 (r.getD i 0)]) (some ⟨g,0,none⟩) r.length c (by simp only[Ax,Mv]) (zzL6 _) hc hm (λhh=>by cases hh) (λ_=>by simp[thUp])⟩
end
set_option maxHeartbeats 1000000 in
theorem SH(l:List Int)(i:Int)(v:List Int)(r:List Int×List Int×List Int)(h:CD l i v=some r)(f:Nat->List AV)(hf:∀ k,k<v.length->f k=[.int .i64 (v.getD k 0)]) :
  Spec Tryz.prog 193 [.vsl 34000 l.length,.int .i64 i,.vsl 34002 v.length] [(34000,.arr 1 3 l.length (λi=>[.int .i64 (l.getD i 0)])),(34002,.arr 1 3 v.length f)] (.vsl 34000 r.2.1.length)
   [(34000,.arr 1 3 r.2.1.length (λi=>[.int .i64 (r.2.1.getD i 0)])),(34002,.arr 1 3 r.2.2.length (λi=>[.int .i64 (r.2.2.getD i 0)]))]:=by
 obtain⟨⟨hi0,hin,hm,hroom⟩,h⟩:=Qi h;obtain rfl:=OI h;unfold room at hroom;obtain⟨k,rfl⟩:=Int.eq_ofNat_of_zero_le hi0
 have hkn:k<=l.length:=by omega
 simp only[Dy];refine⟨enters_of Tryz.func193 (by kernel_rfl) rfl,λw I θ zs hargs hrel hval _=>?_⟩;obtain⟨zs⟩:=zs
 cases hargs with|cons h1 t=>cases t with|cons h2 t=>cases t with|cons h3 t=>cases t with|nil=>
 obtain rfl:=Rep.int_inv h2;rcases rowI_at hrel (l:=v) rfl rfl hf h3 with⟨_,h,_⟩|⟨vg,vc,hvθ,rfl,hvc,_,⟨vcur,hvh,hvs'⟩,hvcell,hvI⟩
 ·rw[h]at hm;cases hm
 have hvs:∀(W:World),(∀ o,W.cell? ⟨vg,o,none⟩=w.cell? ⟨vg,o,none⟩)->∀ j u,(v.map (Value.int .i64))[j]?=some u->W.cell? ⟨vg,0+j,none⟩=some u:=λW hW j u hj=>by
  obtain⟨h1,rfl⟩:=jC hj;rw[F0,hW,hvcell j h1]
 generalize hr:l.take k++v++l.drop k=r
 have hrl:r.length=l.length+v.length:=by rw[<- hr];simp;omega
 have hr1:∀ j,j<k->r.getD j 0=l.getD j 0:=λj hj=>by rw[<- hr];simp only[List.getD];rw[EW,Ug (by simp;omega),List.getElem?_take_of_lt hj]
 have hr2:∀ j,j<v.length->r.getD (k+j) 0=v.getD j 0:=λj hj=>by
  rw[<- hr];simp only[List.getD];rw[EW,Vc (by simp;omega),Ug (by simp;omega)];congr 2;simp;omega
 have hr3:∀ j,k+v.length<=j->r.getD j 0=l.getD (j-v.length) 0:=λj hj=>by
  rw[<- hr];simp only[List.getD];rw[Vc (by simp;omega),IF];congr 2;simp;omega
 obtain⟨own1,hown1⟩:∃ o,o=Ax (Aj [(34000,Own.arr 1 3 l.length (λi=>[.int .i64 (l.getD i 0)])),(34002,Own.arr 1 3 v.length f)]) 34002 (.arr 1 3 v.length (λi=>[.int .i64 (v.getD i 0)])):=⟨_,rfl⟩
 have hk1:Chg (Aj [(34000,Own.arr 1 3 l.length (λi=>[.int .i64 (l.getD i 0)])),(34002,Own.arr 1 3 v.length f)]) θ I w own1 θ I w:=by
  have:=Mb (nm:=34002) (s:=1) (e:=3) (m':=v.length) (f':=λi=>[.int .i64 (v.getD i 0)]) (t':=some (vg,vc)) (w':=w) hrel hval (λ_ _ _=>rfl) (.inr ⟨v.length,f,rfl,zzL6 _,λ_=>hvθ.symm⟩)
   (λ_ _ _=>rfl) rfl rfl rfl (zzL6 _) (λhh=>by cases hh)
   (λg' c' hh=>by
    obtain⟨rfl,rfl⟩:=Prod.mk.inj (OI hh);refine⟨vcur,hvh,hvc,‹_›,by rw[hvs',Uh],λ_ _=>rfl,λi j hi hj=>?_,hvI⟩
    obtain rfl:j=0:=by omega
    have:=hvcell i hi;rw[Nb _ _ _ vcur 3 (0,0) hvh]at this;rw[Uh,Na,Ri,this]
    exact⟨rfl,λ_=>.val _ _ (.int _ _)⟩)
   (λg' c' hh=>by
    obtain⟨rfl,rfl⟩:=Prod.mk.inj (OI hh)
    exact .inr ⟨(λhh=>by cases hh),vc,hvθ⟩)
  rw[Ww hvθ]at this;rw[hown1];exact this
 have ho0:own1 34000=some (.arr 1 3 l.length (λi=>[.int .i64 (l.getD i 0)])):=by rw[hown1];rfl
 have ho2:own1 34002≠none:=by rw[hown1];intro hh;cases hh
 have hH:∀ x,Ax own1 34000 (.arr 1 3 r.length x)=Aj [(34000,Own.arr 1 3 r.length x),(34002,Own.arr 1 3 v.length (λi=>[.int .i64 (v.getD i 0)]))]:=λx=>by
  rw[hown1]
  funext nm
  simp only[Ax,Aj]
  by_cases h1:nm=34000
  ·subst h1;rfl
  ·by_cases h2:nm=34002
   ·subst h2;rfl
   ·have e1:Nat.beq 34000 nm=false:=by cases e:Nat.beq 34000 nm;rfl;exact absurd (C3 e).symm h1
    have e2:Nat.beq 34002 nm=false:=by cases e:Nat.beq 34002 nm;rfl;exact absurd (C3 e).symm h2
    simp[h1,h2,e1,e2]
 have fin:∀(g c:Nat) (w':World) (e:Ending),r.length<=c->c<=maxLen->Lk w w' g->UI w' g c->(∀ j,j<r.length->w'.cell? ⟨g,j,none⟩=some (.int .i64 (r.getD j 0)))->(∀ j,¬ I g j)->(w.heap.size<=g\/∃ c',θ 34000=some (g,c'))->e = .returned (.slice (some ⟨g,0,none⟩) (l.length+v.length) c)->
   ∃ v' I' θ',e = .returned v'/\Chg (Aj [(34000,Own.arr 1 3 l.length (λi=>[.int .i64 (l.getD i 0)])),(34002,Own.arr 1 3 v.length f)]) θ I w (Aj [(34000,Own.arr 1 3 r.length (λi=>[.int .i64 (r.getD i 0)])),(34002,Own.arr 1 3 v.length (λi=>[.int .i64 (v.getD i 0)]))]) θ' I' w' /\
    Rep I' (Aj [(34000,Own.arr 1 3 r.length (λi=>[.int .i64 (r.getD i 0)])),(34002,Own.arr 1 3 v.length (λi=>[.int .i64 (v.getD i 0)]))]) θ' w' v' (.vsl 34000 r.length):=by
  intro g c w' e hc hmx hlk hblk hcell hI hg he;obtain⟨v',θ',e1,e2,e3⟩:=fk (r:=r) hk1.rel hk1.valid ho0 (by omega) hc hmx hlk hblk hcell hI hg;rw[hH]at e2 e3;exact⟨v',I,θ',by rw[he,<- e1,hrl],hk1.trans e2,e3⟩
 have hNI:∀ j,¬ I w.heap.size j:=λj hj=>by
  obtain⟨u,hu⟩:=hval _ _ hj;have:=Od hu;simp at this
 have h1v:=de v;have hvl:(v.map (Value.int .i64)).length=v.length:=Dn ..
 have hbig:(l.length+v.length)*8<=140737488355328:=by omega
 rcases rowI_at hk1.rel rfl ho0 (λ_ _=>rfl) (h1.mono (λ_ _ h=>h) (λ_ _ _=>rfl) hk1.le) with⟨_,rfl,a,rfl⟩|⟨g,c,hθ,rfl,hc,hcm,hB,hcell,hI⟩
 ·
  obtain rfl:k=0:=by simp at hkn;omega
  refine(Any2.slices_Insert_int_end_grow HF a 0 0 vg 0 v.length vc [] (v.map (Value.int .i64)) w hm (zzL6 _) (by omega) (by simpa using hbig) rfl hvl (λ_=>rfl) (λ_ _ _ _ h=>by simp at h) (hvs w λ_=>rfl) h1v).mono λe w' ⟨he,hw⟩=>?_;subst hw;have hG:=grownCap_ge w (0+v.length) 0 (insRen.t 3);have hGm:grownCap w (0+v.length) 0 (insRen.t 3)<=maxLen:=grownCap_le_maxLen _ _ _ _ (by unfold maxLen;omega);simp only[List.length_nil]at he ⊢ hrl
  generalize grownCap w (0+v.length) 0 (insRen.t 3)=G at hG hGm he ⊢
  refine fin w.heap.size G _ e (by omega) hGm ((DI w _).trans (QD (zzL6 _))) ?_ (λj hj=>?_) hNI (.inl (zzL6 _)) he
  ·have:=IW (w:=w.drew) (([]++v.map (Value.int .i64)).toArray++Builtin.zeroCells (Value.int .i64 0).cells (G-(0+v.length)))
   have e:(([]++v.map (Value.int .i64)).toArray++Builtin.zeroCells (Value.int .i64 0).cells (G-(0+v.length))).size=G:=by
    simp[Builtin.zeroCells,Value.cells];omega
   rw[e]at this;exact this
  ·have e:=World.cell?_alloc_at (w:=w.drew) (([]++v.map (Value.int .i64)).toArray++Builtin.zeroCells (Value.int .i64 0).cells (G-(0+v.length))) (insRen.t 3) w.heap.size j rfl;rw[e,Za,ZE _ _ (by rw[hvl];omega),Ta _ (by omega)];have:=hr2 j (by omega);rw[F0]at this;rw[this]
 ·have hcl:(l.map (Value.int .i64)).length=l.length:=Dn ..;have h1c:=de l
  have hc63:c<=9223372036854775807:=by unfold maxLen at hcm;exact hcm
  have hcs:∀ j u,(l.map (Value.int .i64))[j]?=some u->w.cell? ⟨g,0+j,none⟩=some u:=λj u hj=>by
   obtain⟨h1,rfl⟩:=jC hj;rw[F0,hcell j h1]
  have hgv:vg≠g:=λe=>by
   subst e;have:=hrel.inj 34000 34002 vg c vc (by intro hh;cases hh) (by intro hh;cases hh) hθ hvθ
   cases this
  by_cases hroomc:l.length+v.length<=c
  ·by_cases hke:k=l.length
   ·subst hke;refine(Any2.slices_Insert_int_end_room HF g 0 l.length c vg 0 v.length vc (v.map (Value.int .i64)) w hm hroomc hc63 hvl (λj hj=>OW hB (by omega)) (λj hj=>NQ hB _) (hvs w λ_=>rfl) h1v).mono λe w' ⟨he,hw⟩=>?_;subst hw;have hlk:=Wg g (v.map (Value.int .i64)) (0+l.length) w;refine fin g c _ e (by omega) hcm hlk (hlk.blk c hB) (λj hj=>?_) hI (.inr ⟨c,hθ⟩) he;rw[AO hB (by rw[hvl];omega),hvl]
    split
    ·rw[Ta _ (by omega),<- hr2 _ (by omega)];congr 3;omega
    ·rw[hcell j (by omega),hr1 j (by omega)]
   ·refine(Any2.slices_Insert_int_shift HF g 0 l.length c k vg 0 v.length vc (l.map (Value.int .i64)) (v.map (Value.int .i64)) w (by omega) hm hroomc hc63 hgv hcl hvl hcs (λj hj=>OW hB (by omega)) (λj hj=>NQ hB _) (hvs w λ_=>rfl) h1c h1v
     3 3 vc c ?_ ?_ (by omega) ?_ ?_).mono λe w' ⟨he,hw⟩=>?_
    ·simp[World.shape?,hvh,hvs']
    ·obtain⟨cur,q1,q2⟩:=hB;simp[World.shape?,q1,q2]
    ·exact NQ ⟨vcur,hvh,hvs'⟩ _
    ·exact NQ ⟨vcur,hvh,hvs'⟩ _
    subst hw;have hl1:=(DI w g).trans (Wg g ((l.map (Value.int .i64)).drop k) (0+(k+v.length)) w.drew);have hB0:=(DI w g).blk c hB;have hB1:=hl1.blk c hB;have hl2:=hl1.trans (Wg g (v.map (Value.int .i64)) (0+k) _);refine fin g c _ e (by omega) hcm hl2 (hl2.blk c hB) (λj hj=>?_) hI (.inr ⟨c,hθ⟩) he;rw[AO hB1 (by rw[hvl];omega),hvl,AO hB0 (by rw[CI,hcl];omega),CI,hcl]
    split
    ·rw[Ta _ (by omega),<- hr2 _ (by omega)];congr 3;omega
    ·split
     ·rw[IF,Ta _ (by omega),hr3 j (by omega)];congr 3;omega
     ·show w.cell? _=_
      rw[hcell j (by omega),hr1 j (by omega)]
  ·have hG:=grownCap_ge w (l.length+v.length) c (insRen.t 3);have hGm:grownCap w (l.length+v.length) c (insRen.t 3)<=maxLen:=grownCap_le_maxLen _ _ _ _ (by unfold maxLen;omega)
   by_cases hke:k=l.length
   ·subst hke
    refine(Any2.slices_Insert_int_end_grow HF (some ⟨g,0,none⟩) l.length c vg 0 v.length vc (l.map (Value.int .i64)) (v.map (Value.int .i64)) w hm hc (by omega) hbig hcl hvl (λh=>by cases h) (λa ha j u hj=>by
     obtain rfl:=OI ha
     rw[Pa];exact hcs j u hj) (hvs w λ_=>rfl) h1v).mono λe w' ⟨he,hw⟩=>?_
    subst hw
    generalize grownCap w (l.length+v.length) c (insRen.t 3)=G at hG hGm he ⊢
    refine fin w.heap.size G _ e (by omega) hGm ((DI w _).trans (QD (zzL6 _))) ?_ (λj hj=>?_) hNI (.inl (zzL6 _)) he
    ·have:=IW (w:=w.drew) ((l.map (Value.int .i64)++v.map (Value.int .i64)).toArray++Builtin.zeroCells (Value.int .i64 0).cells (G-(l.length+v.length)))
     have e:((l.map (Value.int .i64)++v.map (Value.int .i64)).toArray++Builtin.zeroCells (Value.int .i64 0).cells (G-(l.length+v.length))).size=G:=by
      simp[Builtin.zeroCells,Value.cells];omega
     rw[e]at this;exact this
    ·have e:=World.cell?_alloc_at (w:=w.drew) ((l.map (Value.int .i64)++v.map (Value.int .i64)).toArray++Builtin.zeroCells (Value.int .i64 0).cells (G-(l.length+v.length))) (insRen.t 3) w.heap.size j rfl;rw[e,ZE _ _ (by rw[Fg,hcl,hvl];omega)]
     by_cases hj1:j<l.length
     ·rw[Ug (by omega),Ta _ hj1,hr1 j hj1]
     ·rw[Vc (by omega),hcl,Ta _ (by omega),<- hr2 _ (by omega)];congr 3;omega
   ·refine(Any2.slices_Insert_int_grow HF g 0 l.length c k vg 0 v.length vc (l.map (Value.int .i64)) (v.map (Value.int .i64)) w (by omega) hm hc (by omega) hbig hcl hvl hcs (hvs w λ_=>rfl) h1c h1v).mono λe w' ⟨he,hw⟩=>?_;subst hw
    generalize grownCap w (l.length+v.length) c (insRen.t 3)=G at hG hGm he ⊢
    generalize hA:((l.map (Value.int .i64)).take k).toArray++Builtin.zeroCells (Value.int .i64 0).cells (l.length+v.length-k)++Builtin.zeroCells (Value.int .i64 0).cells (G-(l.length+v.length))=A
    have hAs:A.size=G:=by rw[<- hA];simp[Builtin.zeroCells,Value.cells];omega
    have b0:UI (w.alloc (.cells A 3)) w.heap.size G:=by have:=IW (w:=w) A;rwa[hAs]at this
    have k0:Lk w (w.alloc (.cells A 3)) w.heap.size:=QD (zzL6 _);have k1:=(DI (w.alloc (.cells A 3)) w.heap.size);have b1:=k1.blk G b0;have k2:=Wg w.heap.size (v.map (Value.int .i64)) k (w.alloc (.cells A 3)).drew;have b2:=k2.blk G b1;have k3:=DI ((w.alloc (.cells A 3)).drew.setCells w.heap.size k (v.map (Value.int .i64))) w.heap.size;have b3:=k3.blk G b2;have k4:=Wg w.heap.size ((l.map (Value.int .i64)).drop k) (k+v.length) ((w.alloc (.cells A 3)).drew.setCells w.heap.size k (v.map (Value.int .i64))).drew;refine fin w.heap.size G _ e (by omega) hGm ((((k0.trans k1).trans k2).trans k3).trans k4) (k4.blk G b3) (λj hj=>?_) hNI (.inl (zzL6 _)) he
    show(((w.alloc (Obj.cells A 3)).drew.setCells w.heap.size k (v.map (Value.int .i64))).drew.setCells w.heap.size (k+v.length) ((l.map (Value.int .i64)).drop k)).cell? ⟨w.heap.size,j,none⟩=_
    rw[AO b3 (by rw[CI,hcl];omega),CI,hcl]
    split
    ·rw[IF,Ta _ (by omega),hr3 j (by omega)];congr 3;omega
    ·show((w.alloc (Obj.cells A 3)).drew.setCells w.heap.size k (v.map (Value.int .i64))).cell? ⟨w.heap.size,j,none⟩=_
     rw[AO b1 (by rw[hvl];omega),hvl]
     split
     ·rw[Ta _ (by omega),<- hr2 _ (by omega)];congr 3;omega
     ·have e:=World.cell?_alloc_at (w:=w) A 3 w.heap.size j rfl
      show(w.alloc (.cells A 3)).cell? _=_
      rw[e,<- hA,Array.append_assoc,ZE _ _ (by rw[W0,hcl];omega),List.getElem?_take_of_lt (by omega),Ta _ (by omega),hr1 j (by omega)]
def cr:Go.Shelf.Ren:=⟨fun|189=>190|125=>233|257=>232|128=>273|129=>274|294=>265|295=>266|296=>267|297=>268|298=>269|299=>270|216=>234|300=>271|301=>272|328=>286|329=>287|330=>288|331=>289|332=>290|215=>275|343=>295|n=>n,fun|28=>22|3=>3|46=>239|0=>0|51=>256|53=>44|4=>4|183=>269|182=>268|131=>186|5=>5|9=>9|218=>277|222=>281|228=>285|229=>149|n=>n,fun|n=>n⟩
theorem jU:Go.Proofs.Lays.n189 Tryz.prog cr:={
 mixed:=by kernel_rfl
 f125:=Tryz.func233.trans (Bg some (by kernel_rfl))
 f128:=Tryz.func273.trans (Bg some (by kernel_rfl))
 f129:=Tryz.func274.trans (Bg some (by kernel_rfl))
 f189:=Tryz.func190.trans (Bg some (by kernel_rfl))
 f215:=Tryz.func275.trans (Bg some (by kernel_rfl))
 f216:=Tryz.func234.trans (Bg some (by kernel_rfl))
 f257:=Tryz.func232.trans (Bg some (by kernel_rfl))
 f294:=Tryz.func265.trans (Bg some (by kernel_rfl))
 f295:=Tryz.func266.trans (Bg some (by kernel_rfl))
 f296:=Tryz.func267.trans (Bg some (by kernel_rfl))
 f297:=Tryz.func268.trans (Bg some (by kernel_rfl))
 f298:=Tryz.func269.trans (Bg some (by kernel_rfl))
 f299:=Tryz.func270.trans (Bg some (by kernel_rfl))
 f300:=Tryz.func271.trans (Bg some (by kernel_rfl))
 f301:=Tryz.func272.trans (Bg some (by kernel_rfl))
 f328:=Tryz.func286.trans (Bg some (by kernel_rfl))
 f329:=Tryz.func287.trans (Bg some (by kernel_rfl))
 f330:=Tryz.func288.trans (Bg some (by kernel_rfl))
 f331:=Tryz.func289.trans (Bg some (by kernel_rfl))
 f332:=Tryz.func290.trans (Bg some (by kernel_rfl))
 f343:=Tryz.func295.trans (Bg some (by kernel_rfl))
 t0:=Tryz.underlying0
 a0:=Tryz.isAgg0
 z0:=Tryz.sizeOf0
 v0:=Tryz.zeroValue0
 t3:=Tryz.underlying3
 a3:=Tryz.isAgg3
 z3:=Tryz.sizeOf3
 v3:=Tryz.zeroValue3
 t4:=Tryz.underlying4
 a4:=Tryz.isAgg4
 z4:=Tryz.sizeOf4
 v4:=Tryz.zeroValue4
 t5:=Tryz.underlying5
 a5:=Tryz.isAgg5
 z5:=Tryz.sizeOf5
 v5:=Tryz.zeroValue5
 t9:=Tryz.underlying9
 a9:=Tryz.isAgg9
 z9:=Tryz.sizeOf9
 v9:=Tryz.zeroValue9
 t28:=Tryz.underlying22
 a28:=Tryz.isAgg22
 z28:=Tryz.sizeOf22
 v28:=Tryz.zeroValue22
 t46:=Tryz.underlying239
 a46:=Tryz.isAgg239
 z46:=Tryz.sizeOf239
 v46:=Tryz.zeroValue239
 t51:=Tryz.underlying256
 a51:=Tryz.isAgg256
 z51:=Tryz.sizeOf256
 v51:=Tryz.zeroValue256
 t53:=Tryz.underlying44
 a53:=Tryz.isAgg44
 z53:=Tryz.sizeOf44
 v53:=Tryz.zeroValue44
 t131:=Tryz.underlying186
 a131:=Tryz.isAgg186
 z131:=Tryz.sizeOf186
 v131:=Tryz.zeroValue186
 t182:=Tryz.underlying268
 a182:=Tryz.isAgg268
 z182:=Tryz.sizeOf268
 v182:=Tryz.zeroValue268
 t183:=Tryz.underlying269
 a183:=Tryz.isAgg269
 z183:=Tryz.sizeOf269
 v183:=Tryz.zeroValue269
 t218:=Tryz.underlying277
 a218:=Tryz.isAgg277
 z218:=Tryz.sizeOf277
 v218:=Tryz.zeroValue277
 t222:=Tryz.underlying281
 a222:=Tryz.isAgg281
 z222:=Tryz.sizeOf281
 v222:=Tryz.zeroValue281
 t228:=Tryz.underlying285
 a228:=Tryz.isAgg285
 z228:=Tryz.sizeOf285
 v228:=Tryz.zeroValue285
 t229:=Tryz.underlying149
 a229:=Tryz.isAgg149
 z229:=Tryz.sizeOf149
 v229:=Tryz.zeroValue149 }
def UW:Go.Shelf.Ren:=⟨fun|15=>189|n=>n,fun|22=>22|3=>3|4=>4|n=>n,fun|n=>n⟩
theorem JE:Go.Proofs.Lays2.n15 Tryz.prog UW:={
 mixed:=by kernel_rfl
 f15:=Tryz.func189.trans (Bg some (by kernel_rfl))
 t3:=Tryz.underlying3
 a3:=Tryz.isAgg3
 z3:=Tryz.sizeOf3
 v3:=Tryz.zeroValue3
 t4:=Tryz.underlying4
 a4:=Tryz.isAgg4
 z4:=Tryz.sizeOf4
 v4:=Tryz.zeroValue4
 t22:=Tryz.underlying22
 a22:=Tryz.isAgg22
 z22:=Tryz.sizeOf22
 v22:=Tryz.zeroValue22
 i3:=by kernel_rfl }
def UX:Go.Shelf.Ren:=⟨fun|20=>191|n=>n,fun|22=>22|3=>3|4=>4|0=>0|n=>n,fun|n=>n⟩
theorem WS:Go.Proofs.Lays2.n20 Tryz.prog UX:={
 mixed:=by kernel_rfl
 f20:=Tryz.func191.trans (Bg some (by kernel_rfl))
 t0:=Tryz.underlying0
 a0:=Tryz.isAgg0
 z0:=Tryz.sizeOf0
 v0:=Tryz.zeroValue0
 t3:=Tryz.underlying3
 a3:=Tryz.isAgg3
 z3:=Tryz.sizeOf3
 v3:=Tryz.zeroValue3
 t4:=Tryz.underlying4
 a4:=Tryz.isAgg4
 z4:=Tryz.sizeOf4
 v4:=Tryz.zeroValue4
 t22:=Tryz.underlying22
 a22:=Tryz.isAgg22
 z22:=Tryz.sizeOf22
 v22:=Tryz.zeroValue22
 i3:=by kernel_rfl }
open Go.Sort
section
variable {I:Nat->Nat->Prop} {θ:Nat->Option (Nat×Nat)} {w w':World}
theorem ge(I:Nat->Nat->Prop)(θ:Nat->Option (Nat×Nat))(w:World):Ji I (Aj []) θ w:=
 ⟨(λ_ _ _ h=>by cases h),(λ_ _ _ _ h=>by cases h),(λ_ _ _ _ _ h=>(h rfl).elim),(λ_ _ _ _ _ h=>by cases h),(λ_ _ h=>by cases h),(λ_ _ _ h=>by cases h)⟩
theorem pp{own:Nat->Option Own}{zs:Array Value}{x:AV}(h:RepL I own θ w zs.toList [x]):∃ v,zs = #[v]/\Rep I own θ w v x:=by
 obtain⟨l⟩:=zs
 cases h with
 | cons h1 h2=>cases h2;exact⟨_,rfl,h1⟩
theorem EF(hb:Below w.heap.size w w')(hval:∀ b o,I b o->∃ u,w.cell? ⟨b,o,none⟩=some u){N:Nat->Nat->Prop}(hN:∀ b o,N b o->w.heap.size<=b/\∃ u,w'.cell? ⟨b,o,none⟩=some u) :
  Chg (Aj []) θ I w (Aj []) θ (λb o=>I b o\/N b o) w':=
 have hcell:∀ b o,I b o->w'.cell? ⟨b,o,none⟩=w.cell? ⟨b,o,none⟩:=λb o hi=>by
  obtain⟨u,hu⟩:=hval b o hi;exact EV (a:=⟨b,o,none⟩) (hb.block b (Od hu))
 {imm:=λ_ _ h=>.inl h,cell:=hcell,le:=λ_ _ h=>(by cases h),rel:=ge _ _ _,
  valid:=λb o hi=>by
   rcases hi with hi|hi
   ·obtain⟨u,hu⟩:=hval b o hi;exact⟨u,(hcell b o hi).trans hu⟩
   ·exact(hN b o hi).2,
  os:=hb.os,tape:=hb.tape,output:=hb.output,drawn:=λh=>h.elim,grow:=hb.size,frame:=λb hlt _=>hb.block b hlt,new:=λ_ _ _ h=>(h rfl).elim,
  immNew:=λb o hi=>by
   rcases hi with hi|hi
   ·exact .inl hi
   ·exact .inr (.inl (hN b o hi).1) }
end
theorem GR{w W:World}{g n:Nat}{os:Array Obj}{d:Array Int}(hb:Below w.heap.size w W)(hg:w.heap.size<=g):Below w.heap.size w (grow (putRow (Value.int .i64) (Sort.ahead W n) g 0 d) os):=by
 have k:=grownBy_sortedI (w:=W) (g:=g) (n:=n) (os:=os) d;refine hb.trans ⟨k.os,k.tape,k.output,k.size,λb hlt=>k.block b (Nat.lt_of_lt_of_le hlt hb.size) (λe=>?_)⟩;have:=OI e;omega
def YV(w W:World)(g cap n:Nat)(zs:List Int):Prop:=
 Below w.heap.size w W/\w.heap.size<=g/\∃ cur,W.heap[g]?=some (.cells cur 3 (0,0))/\n<=cap/\cap<=maxLen/\cur.size=cap/\cur.toList.take zs.length=zs.map (Value.int .i64)/\zs.length=n
theorem jm{w W:World}{v:Value}{n:Nat}{zs:List Int}(h:W.ownsRow w.heap.size 3 1 v n (zs.map (Value.int .i64)))(hne:v≠.slice none 0 0)(hb:Below w.heap.size w W):∃ g cap,v = .slice (some ⟨g,0,none⟩) n cap/\YV w W g cap n zs:=by
 have hl:zs.length=n:=by have:=h.1;simpa using this
 rcases h.2 with⟨rfl,_⟩|⟨g,cap,cur,rfl,hg,hcur,hcap,hmax,hsz,ht⟩
 ·exact(hne rfl).elim
 ·rw[Uh]at hsz ht;exact⟨g,cap,rfl,hb,hg,cur,hcur,hcap,hmax,hsz,by rw[hl];exact ht,hl⟩
theorem oG(ad:Addr)(c:Nat)(w:World):Calls Tryz.prog 189 #[.slice (some ad) 0 c] w λe W=>∃ g cap,e = .returned (.slice (some ⟨g,0,none⟩) 0 cap)/\YV w W g cap 0 []:=
 (Any.slices_Clone_int_zero JE ad c w).mono λe W ⟨v,he,hown,hne,hb⟩=>by
  obtain⟨g,cap,rfl,h⟩:=jm (zs:=[]) hown hne hb;exact⟨g,cap,he,h⟩
theorem sW(b off n c:Nat)(zs:List Int)(w:World)(hz:zs.length=n)(hbig:n<=17592186044416)(hc:∀ j,j<n->w.cell? ⟨b,off+j,none⟩=some (.int .i64 (zs.getD j 0))) :
  Calls Tryz.prog 189 #[.slice (some ⟨b,off,none⟩) n c] w λe W=>∃ g cap,e = .returned (.slice (some ⟨g,0,none⟩) n cap)/\YV w W g cap n zs:=
 (Any.slices_Clone_int JE b off n c zs w (by omega) (by omega) (λj hj=>hc j (by omega))).mono λe W ⟨v,he,hown,hne,hb⟩=>by
  rw[show zs.take n=zs by rw[<- hz];exact W1 ..]at hown;obtain⟨g,cap,rfl,h⟩:=jm hown hne hb;exact⟨g,cap,he,h⟩
theorem wK{w W:World}{g cap n:Nat}{zs:List Int}(h:YV w W g cap n zs)(hbig:n<=17592186044416):Calls Tryz.prog 190 #[.slice (some ⟨g,0,none⟩) n cap] W λe W2=>e = .returned (.tuple #[])/\YV w W2 g cap n (zs.mergeSort λx y=>decide (x<=y)):=by
 obtain⟨hb,hg,cur,hcur,hcap,hmax,hsz,ht,rfl⟩:=h;refine(Any.slices_Sort_int jU g 0 cap zs W (holds_of_blockI hcur ht) (HD hcur) (by omega)).mono λe W2 ⟨he,q,os,hW⟩=>⟨he,?_⟩;subst hW;have hl:(zs.mergeSort λx y=>decide (x<=y)).length=zs.length:=List.length_mergeSort ..;have b2:=GR (n:=q) (os:=os) (d:=(zs.mergeSort λx y=>decide (x<=y)).toArray) hb hg;exact⟨b2,hg,_,heap_sortedI _ hcur,hcap,hmax,by simp[putCells,hsz],take_putCellsI cur _ (by omega),hl⟩
theorem lC{w W:World}{g cap n:Nat}{zs:List Int}(h:YV w W g cap n zs)(hbig:n<=17592186044416):Calls Tryz.prog 191 #[.slice (some ⟨g,0,none⟩) n cap] W λe W2=>e = .returned (.slice (some ⟨g,0,none⟩) (Lib.compact zs).length cap)/\YV w W2 g cap (Lib.compact zs).length (Lib.compact zs):=by
 obtain⟨hb,hg,cur,hcur,hcap,hmax,hsz,ht,rfl⟩:=h;refine(Any.slices_Compact_int WS g 0 cap zs W (holds_of_blockI hcur ht) (by omega) hcap).mono λe W2 ⟨he,q,hW⟩=>⟨he,?_⟩;subst hW;have hcl:=Lib.compact_length_le zs
 generalize Lib.compact zs=cs at hcl ⊢
 generalize hts:cs++List.replicate (zs.length-cs.length) (0:Int)=ts
 have htl:ts.length=zs.length:=by rw[<- hts,Fg,N9];omega
 have b2:=GR (n:=q) (os:=#[]) (d:=ts.toArray) hb hg;have h2:=heap_sortedI (n:=q) (os:=#[]) ts.toArray hcur;rw[grow_empty]at b2 h2;have h3:=take_putCellsI cur ts (by omega);refine⟨b2,hg,_,h2,by omega,hmax,by simp[putCells,hsz],?_,rfl⟩;have:=Bg (List.take cs.length) h3;rw[List.take_take,Nat.min_eq_left (by omega),<- List.map_take,<- hts,List.take_left' rfl]at this;rw[<- hts];exact this
def rL(w w':World)(v:Value)(r:List Int):Prop:=
 (v = .slice none 0 0/\r=[])\/∃ g cap,v = .slice (some ⟨g,0,none⟩) r.length cap/\YV w w' g cap r.length r
set_option maxHeartbeats 4000000 in
set_option maxRecDepth 100000 in
theorem qN(a:Option Addr)(n c:Nat)(zs:List Int)(w:World)(hz:zs.length=n)(hn:a=none->n=0)(hbig:n<=17592186044416)
  (hc:0<n->∃ b off,a=some ⟨b,off,none⟩/\∀ j,j<n->w.cell? ⟨b,off+j,none⟩=some (.int .i64 (zs.getD j 0))) :
  Calls Tryz.prog 137 #[.slice a n c] w λe w'=>∃ v,e = .returned v/\Below w.heap.size w w'/\rL w w' v (Lib.compact (zs.mergeSort λx y=>decide (x<=y))):=by
 cases a with
 | none=>
  obtain rfl:=hn rfl;obtain rfl:zs=[]:=zzL93.1 hz
  have hr:Lib.compact (([]:List Int).mergeSort λx y=>decide (x<=y))=[]:=by simp[Lib.compact,Lib.compactUpTo]
  rw[hr];have h1:Calls Tryz.prog 189 #[.slice none 0 c] w λe w'=>e = .returned (.slice none 0 0)/\w'=w:=Any.slices_Clone_int_nil JE 0 c w;have h2:Calls Tryz.prog 190 #[.slice none 0 0] w λe w'=>e = .returned (.tuple #[])/\w'=w:=Any.slices_Sort_int_none jU none 0 w;have h3:Calls Tryz.prog 191 #[.slice none 0 0] w λe w'=>e = .returned (.slice none 0 0)/\w'=w:=Any.slices_Compact_int_empty WS none 0 w
  go_enter Tryz.func137,Tryz.ntmps137
  go_wp2_with (first
   | (go_at_call 189;refine h1.mono ?_;rintro e W ⟨rfl,rfl⟩)
   | (go_at_call 190;refine h2.mono ?_;rintro e W ⟨rfl,rfl⟩)
   | (go_at_call 191;refine h3.mono ?_;rintro e W ⟨rfl,rfl⟩))
  go_ret
  exact⟨_,rfl,Below.refl _ _,.inl ⟨rfl,rfl⟩⟩
 | some ad=>
  have h1:Calls Tryz.prog 189 #[.slice (some ad) n c] w λe W=>∃ g cap,e = .returned (.slice (some ⟨g,0,none⟩) n cap)/\YV w W g cap n zs:=by
   by_cases h0:n=0
   ·subst h0;obtain rfl:zs=[]:=zzL93.1 hz;exact oG ad c w
   ·obtain⟨b,off,hab,hcell⟩:=hc (by omega);obtain rfl:=OI hab;exact sW b off n c zs w hz hbig hcell
  go_enter Tryz.func137,Tryz.ntmps137
  go_wp2_with (first
   | (go_at_call 189;refine h1.mono ?_;rintro e W ⟨g,cap,rfl,hO⟩)
   | (go_at_call 190;refine(wK hO hbig).mono ?_;rintro e W2 ⟨rfl,hO2⟩)
   | (go_at_call 191;refine(lC hO2 hbig).mono ?_;rintro e W3 ⟨rfl,hO3⟩))
  go_ret
  exact⟨_,rfl,hO3.1,.inr ⟨_,_,rfl,hO3⟩⟩
def fj(x:Int):List Int->List Int
 | []=>[x]
 | y::l=>if x<=y then x::y::l else y::fj x l
def ow:List Int->List Int
 | []=>[]
 | x::l=>fj x (ow l)
theorem insI_perm(x:Int):∀ l,(fj x l).Perm (x::l)
 | []=>.refl _
 | y::l=>by
  unfold fj
  split
  ·exact .refl _
  ·exact((insI_perm x l).cons y).trans (.swap x y l)
theorem jP{x:Int}:∀{l:List Int},l.Pairwise (·<=·)->(fj x l).Pairwise (·<=·)
 | [],_=>by simp[fj]
 | y::l,h=>by
  have h':=zzL74.1 h;unfold fj
  split
  ·rename_i hxy
   exact zzL74.2 ⟨λz hz=>by
    rcases zzL37.1 hz with rfl|hz
    ·exact hxy
    ·exact Int.le_trans hxy (h'.1 z hz),h⟩
  ·rename_i hxy
   refine zzL74.2 ⟨λz hz=>?_,jP h'.2⟩;rcases zzL37.1 ((insI_perm x l).mem_iff.1 hz) with rfl|hz
   ·omega
   ·exact h'.1 z hz
theorem WR:∀ l,(ow l).Perm l
 | []=>.refl _
 | x::l=>(insI_perm x _).trans ((WR l).cons x)
theorem jR:∀ l,(ow l).Pairwise (·<=·)
 | []=>.nil
 | x::l=>jP (jR l)
theorem jQ(l:List Int):ow l=l.mergeSort λx y=>decide (x<=y):=by
 refine List.Perm.eq_of_pairwise (le:=(·<=·)) (λa b _ _ h1 h2=>Int.le_antisymm h1 h2) (jR l) ?_ ((WR l).trans (List.mergeSort_perm l _).symm);have:=List.pairwise_mergeSort (le:=λ(x y:Int)=>decide (x<=y)) (λa b c h1 h2=>by simp at *;omega) (λa b=>by simp;omega) l
 exact this.imp λh=>by simpa using h
def IE(l:List Int):Option (List Int):=A0 (l.length<=17592186044416) (some (Lib.compact (ow l)))
theorem h9(l r:List Int)(h:IE l=some r):Spec Tryz.prog 137 [AV.list 1 (λx=>[.int .i64 x]) (0:Int) l .none] [] (AV.list 1 (λx=>[.int .i64 x]) (0:Int) r .none) []:=by
 obtain⟨hlen,h⟩:=Qi h;rw[jQ]at h;obtain rfl:=OI h;refine⟨enters_of Tryz.func137 (by kernel_rfl) rfl,λw I θ zs hargs _ hval _=>?_⟩;obtain⟨v,rfl,hv⟩:=pp hargs;obtain⟨_,a,cap,us,rfl,hcap,hmax,hz,hnn,h1,hl,hr⟩:=hv.slice_val.slice_inv
 have hint:∀ i,i<l.length->us i = .int .i64 (l.getD i 0):=λi hi=>by
  have:=hr i 0 hi (by omega);rw[Uh,Na]at this;have h2:RepV I w (us i) (.int .i64 (l.getD i 0)):=this;exact Rep.int_inv (own:=Aj []) (θ:=θ) (.val _ _ h2)
 refine(qN a l.length cap l w rfl (λha=>by have:=hnn ha;omega) hlen (λhp=>?_)).mono λe w' ⟨v,he,hb,hout⟩=>?_
 ·obtain⟨b,rfl,hs,_,hcell⟩:=hz hp;obtain⟨blk,off,spot⟩:=b;simp only at hs hcell;subst hs;exact⟨blk,off,rfl,λj hj=>by rw[hcell j (by omega),hint j hj]⟩
 ·generalize Lib.compact (l.mergeSort λx y=>decide (x<=y))=r at hout ⊢
  rcases hout with⟨rfl,rfl⟩|⟨g,cap',rfl,_,hg,cur,hcur,hc1,hc2,hc3,htake,_⟩
  ·exact⟨_,_,θ,he,EF hb hval (N:=λ_ _=>False) (λ_ _ h=>h.elim),.val _ _ (.slice none 0 0 1 _ (λ_=>undef) (zzL6 _) (P6 _) (λh=>by cases h) (λ_=>rfl) (λj hj=>by simp at hj) (λi hi=>by cases hi) (λi c hi=>by cases hi))⟩
  ·have hcell:∀ j,j<r.length->w'.cell? ⟨g,j,none⟩=some (.int .i64 (r.getD j 0)):=λj hj=>by
    rw[Nb _ _ _ cur 3 (0,0) hcur]
    have h2:(cur.toList.take r.length)[j]?=(r.map (Value.int .i64))[j]?:=by rw[htake]
    rw[List.getElem?_take_of_lt hj,Array.getElem?_toList]at h2;rw[h2];simp[List.getD,hj]
   refine⟨_,_,θ,he,EF hb hval (N:=λb o=>b=g/\o<r.length) (λb o ⟨hbg,ho⟩=>⟨by omega,by subst hbg;exact⟨_,hcell o ho⟩⟩),.val _ _ (.slice (some ⟨g,0,none⟩) r.length cap' 1 _ (λj=>.int .i64 (r.getD j 0)) hc1 hc2 (λ_=>⟨⟨g,0,none⟩,rfl,rfl,λj hj=>.inr ⟨rfl,by simpa using hj⟩,λj hj=>by rw[F0];exact hcell j (by omega)⟩) (λh=>by cases h) (λ_ _=>rfl) (λ_ _=>rfl) (λi c hi hc=>?_))⟩
   obtain rfl:c=0:=by omega
   rw[Uh,Na];exact .int _ _
abbrev Ar:=List Int
abbrev Lj:=List (List Int)
def Iv:=[30000,37006,9100005]
def EC:=[(30000,30000),(37006,37006),(9100005,9100005)]
def Iy:=[30000,37006]
def S2:=[3,30000,37006,9100005]
def Qb:=[2,5,6,25,36007]
def Js:=[1,5,5003]
def V7:=[6,30000,37006,9100005]
def Sp:=[10,30000,9100002]
def J8:=[1,3,4]
def UD:=[3,4,30000,36005,36006,9100002]
def Zb:=[(30000,30000),(37006,37006)]
def J5:=[2,13,21]
def CL:=[3,4,15,34,30000,9100002]
def Q8:=[8,30000,37006]
def L6:=[1,3,4,5]
def Ee:=[1,2]
def Nc:=[1,7,8,9]
def Zc:=[30000,37006,13000005]
def CQ:=[3,4,15,30000,9100002]
def E0:=[2,3]
def II:=[3,5,30000,37006,9100005]
def IJ:=[0,4,6,21,22,30,31,32]
def S6:=[30000,9100002]
def So:=[1,3,4,5,6]
def Gn:=[0,1]
def FA:=[2,5,6,7,26,27,28]
def Vh:=[2,7,77,70077]
def Li:=[37,75]
def Nd:=[0,1,5]
def Nf:=[1,5003]
def YH:=[(30000,30000),(9100002,9100002)]
def TX:=[4,5,9,29,57,5902,30000]
def MN:=[5,30000,37006,9100005]
def kD:=[0,2,3,8,9,16,17,18,54,55,56,62,63,64]
def Ui:=[3,5,8,24]
def kE:=[0,2,3,5,16,17,18,24,25,26,31,32,33]
def S7:=[1,6,5003]
def MO:=[0,4,5,9,68,69,70]
def Lz:=[3,14]
def TY:=[0,3,4,5,6,12,13,14]
def MP:=[3,4,5,6,29,30000]
def FB:=[2,5,6,7,8,9]
def Zd:=[1,2,7,5005]
def TZ:=[1,2,4,5,6,7,8,10]
def YI:=[3,9,30000,37006,9100005]
def CR:=[3,10,11,12]
def CS:=[2,5,6,7,8]
def eQ:=[0,2,3,16,17,18,24,25,26]
def eR:=[0,2,3,16,17,18,54,55,56]
def Uj:=[2,33,59]
def S8:=[3,6,11]
def qv:=[(30000,30000),(37006,37006),(13000005,9200005)]
def L7:=[1,3]
def W6:=[0,1,5,6]
def qw:=[(30000,30000),(37006,37006),(9300005,9200005)]
def Vi:=[10,70010]
def UA:=[1,2,7,5005,5008]
def S9:=[0,3,4]
def MQ:=[1,5,11,12,13]
def MR:=[1,5,7,11,12]
def kF:=[4,5,9,11,29,57,5902,30000]
def UB:=[2,35,37,46,51]
def kG:=[3,4,6,14,15,16,21,22,23]
def kH:=[3,4,6,14,15,16,33,34,35]
def MS:=[1,7,8,9,10]
def YJ:=[3,31,30000,37006]
def YK:=[1,5,7,11,12,13]
def IK:=[30000,35000]
def YL:=[3,4,5,14,15,16]
def eS:=[1,2,5,6,7,8,9,10]
def MT:=[1,6,7,8,9]
def kI:=[3,4,11,12,13,18,19,20]
def kJ:=[0,5,12,13,14,18,19,20]
def P7:=[1,4]
def W7:=[2,5,6]
def W8:=[1,4,7]
def kK:=[6,7,30000,37006,9100005]
def kL:=[1,5,7,11,12,13,14,15]
def UC:=[1,7,8,9,16]
def FC:=[0,21,22]
def eT:=[3,4,30000,9100002]
def Rj:=[0,3]
def YM:=[31,30000,37006]
def IL:=[1,3,5,6]
def IM:=[0,1,7,8]
def YN:=[1,2,5,6,7,8]
def kM:=[0,3,4,5,8,36,37,38]
def kN:=[0,3,4,5,6,33,34,35]
def eU:=[0,2,3,16,17,18]
def eV:=[3,4,6,14,15,16]
def MU:=[33,59,103]
def qx:=[0,3,4,5,8,9,10,36,37,38]
def qy:=[0,4,6,21,22,30,31,32,33]
def qz:=[0,4,6,21,22,30,31,32,40]
def u4:=[(30000,30000),(9100002,9100002),(10,20000)]
def YO:=[0,5,8,9,10]
def q8:=[0,4,6,8,21,22,30,31,32]
def YP:=[1,5,72,5003]
def kO:=[0,3,4,5,17,18,19]
def eW:=[2,3,7,8,9,10]
def SU:=[1,2,6,8,9,10]
def iA:=[(30000,30000),(29,9100002)]
def qf:=[(30000,30000),(37006,37006),(8,9200005)]
def bR:=[1,3,4,5,9,10,11]
def GA:=[1,3,7,17]
def V4:=[1,2,5]
def Yo:=[0,1,10]
def KN:=[0,16,17,18]
def SV:=[0,2,4,7,8,9]
def KO:=[1,2,4,5,6]
def KP:=[1,5,7,5003]
def SW:=[3,4,14,15,16]
def bS:=[2,5,6,7,8,9,10]
def iB:=[6,8,30000,37006,9100005]
def SX:=[3,30000,37006]
def SY:=[0,3,9,10,11]
def bT:=[2,4,5,18,19,20]
def bU:=[1,3,4,5,6,7,8]
def GB:=[4,5,5502]
def SZ:=[(34000,34000)]
def CM:=[10,5003]
def TA:=[3,11,12,13]
def TB:=[0,12,13,14]
def TC:=[0,1,6,7,8]
def TD:=[6,18,19,25]
def TE:=[0,2,4,7,8]
def TF:=[2,3,7,8,9]
def TG:=[1,3,5,6,7]
def TH:=[1,3,5,6,8]
def TI:=[1,3,4,5,9]
def iC:=[1,5,7,11,12,13,14]
def TJ:=[4,15,16,17]
def TK:=[0,3,4,5,6]
def TL:=[3,4,5,7,8]
def KQ:=[2,5,6,7]
def KR:=[18,19,20]
def iD:=[1,2,4,5,6,7,8,9]
def CN:=[1,2,6]
def iE:=[3,4,5,7,14,15,16]
def V5:=[2,16]
def qg:=[2,5,6,7,9,10,26,27,28,44]
def GC:=[1,4,22]
def GD:=[1,3,17]
def TM:=[5,7,12,13]
def GE:=[3,5,24]
def iF:=[30000,37006,9300005]
def qh:=[3,4,10,15,34,30000,9100002]
def KS:=[2,35,37]
def qi:=[0,3,4,5,6,7,8,12,13,14]
def bV:=[0,1,3,9,10]
def iG:=[0,1,5,14,15,16]
def iH:=[1,2,4,5,6,7,8]
def GF:=[1,2,3]
def qj:=[2,5,6,7,9,10,26,27,28]
def V6:=[2,5]
def bW:=[(6004,20000)]
def TN:=[0,1,6,7]
def bX:=[0,15,16,17]
def bY:=[0,21,22,23]
def TO:=[0,2,4,5]
def TP:=[1,2,5005]
def TQ:=[2,3,7,8]
def bZ:=[(5003,20000)]
def ba:=[6,25,26,27]
def qk:=[(36005,34000),(31,34002)]
def ql:=[(36006,34000),(42,34002)]
def iI:=[0,1,5,7,8,16]
def iJ:=[3,4,5,7,8,10]
def qm:=[2,5,6,7,26,27,28,29]
def CO:=[2,33]
def CP:=[3,11]
def TR:=[5,18,19]
def TS:=[6,18,19]
def iK:=[1,2,15,16,17]
def qn:=[2,5,6,7,9,26,27,28]
def Yp:=[3,4]
def iL:=[0,1,32,33,34]
def qo:=[10,30000,37006,9100005]
def KT:=[1,3,5]
def iM:=[1,3,5,6,7,8]
def iN:=[3,4,5,7,8,9]
def bb:=[2,5,6,25]
def qp:=[2,5,6,7,8,9,10,60]
def qq:=[4,30000,37006,9100005]
def bc:=[1,2,3,14]
def iO:=[0,3,4,14,15]
def iP:=[0,4,6,21,22]
def TT:=[1,2,11]
def be:=[0,2,7,8]
def iQ:=[(34001,34001)]
def KU:=[18,19]
def bf:=[1,3,4,6]
def qr:=[2,7,77,60077,70077]
def KV:=[15,18]
def bg:=[0,3,4,5]
def qs:=[4,5,9,29,57,30000]
def bh:=[1,2,3,4]
def bi:=[1,5,6,7]
def qt:=[4,9,29,5902,30000]
def iR:=[1,23,24,25]
def TU:=[0,1,2]
def iS:=[1,2,5,6,7]
def TV:=[0,2,7]
def iT:=[3,38,39,40]
def iU:=[0,37,38,39]
def iV:=[0,1,7,8,9]
def iW:=[0,1,5,7,8]
def iX:=[0,2,4,5,6]
def iY:=[2,35,37,46]
def TW:=[2,5,7]
def iZ:=[0,3,4,5,8]
def ia:=[0,1,12,13]
def ib:=[0,6,21,22]
def qu:=[(9200002,10001102)]
def bj:=[7,34000]
set_option maxRecDepth 100000
set_option maxHeartbeats 2000000
def Ap(x:Int):List AV:=[(.int .i64 x)]
def Lh(x:Ar):List AV:=[(AV.list 1 Ap 0 x .none)]
structure Ba where
 Bits:Int
 Dst:Int
 From:Ar
 Args:Ar
 deriving Inhabited,DecidableEq
def Eo(x:Ba):List AV:=[(.int .i64 x.Bits),(.int .i64 x.Dst),(AV.list 1 Ap 0 x.From .none),(AV.list 1 Ap 0 x.Args .none)]
def wQ(x:List Ba):List AV:=[(AV.list 4 Eo default x .none)]
def Aah(x:Int):List AV:=[(.int .u64 x)]
structure B2 where
 Kind:Int
 Bits:Int
 Lanes:Int
 Dst:Int
 Args:Ar
 Imm:Int
 deriving Inhabited,DecidableEq
def J6(x:B2):List AV:=[(.int .i64 x.Kind),(.int .i64 x.Bits),(.int .i64 x.Lanes),(.int .i64 x.Dst),(AV.list 1 Ap 0 x.Args .none),(.int .u64 x.Imm)]
def WH(x:List B2):List AV:=[(AV.list 6 J6 default x .none)]
structure Kb where
 Kind:Int
 Arg:Int
 To:Ar
 deriving Inhabited,DecidableEq
def jJ(x:Kb):List AV:=[(.int .i64 x.Kind),(.int .i64 x.Arg),(AV.list 1 Ap 0 x.To .none)]
structure Ae where
 Phis:List Ba
 Ops:List B2
 End:Kb
 deriving Inhabited,DecidableEq
def Cg(x:Ae):List AV:=[(AV.list 4 Eo default x.Phis .none),(AV.list 6 J6 default x.Ops .none),(.int .i64 x.End.Kind),(.int .i64 x.End.Arg),(AV.list 1 Ap 0 x.End.To .none)]
def oW(x:List Ae):List AV:=[(AV.list 5 Cg default x .none)]
structure TFunc where
 Params:Ar
 Ret:Int
 Blocks:List Ae
 deriving Inhabited,DecidableEq
def eTFunc(x:TFunc):List AV:=[(AV.list 1 Ap 0 x.Params .none),(.int .i64 x.Ret),(AV.list 5 Cg default x.Blocks .none)]
structure nN where
 At:Int
 Then:Int
 Else:Int
 Join:Int
 deriving Inhabited,DecidableEq
abbrev Gq:=(Int×Int)
def Bo(x:Gq):List AV:=[(.int .i64 x.1),(.int .i64 x.2)]
structure L8 where
 block:Int
 at_:Int
 deriving Inhabited,DecidableEq
def NW(x:L8):List AV:=[(.int .i64 x.block),(.int .i64 x.at_)]
structure Be where
 v:Int
 shape:Gq
 place:L8
 deriving Inhabited,DecidableEq
def Ol(x:Be):List AV:=[(.int .i64 x.v),(.int .i64 x.shape.1),(.int .i64 x.shape.2),(.int .i64 x.place.block),(.int .i64 x.place.at_)]
structure TGraph where
 Succ:Lj
 Pred:Lj
 deriving Inhabited,DecidableEq
def Us(x:TGraph):List AV:=[(AV.list 1 Lh [] x.Succ .none),(AV.list 1 Lh [] x.Pred .none)]
def eB(x:Bool):List AV:=[(.bool x)]
structure Ay where
 shape:Gq
 place:L8
 deriving Inhabited,DecidableEq
def jK(x:Ay):List AV:=[(.int .i64 x.shape.1),(.int .i64 x.shape.2),(.int .i64 x.place.block),(.int .i64 x.place.at_)]
structure zu where
 f:TFunc
 h:nN
 ops:List B2
 last:Int
 deriving Inhabited,DecidableEq
structure Bx where
 V:Int
 Block:Int
 At:Int
 Shape:Gq
 deriving Inhabited,DecidableEq
def Pv(x:Bx):List AV:=[(.int .i64 x.V),(.int .i64 x.Block),(.int .i64 x.At),(.int .i64 x.Shape.1),(.int .i64 x.Shape.2)]
structure Cm where
 V:Int
 Block:Int
 At:Int
 Shape:Gq
 deriving Inhabited,DecidableEq
def O2(x:Cm):List AV:=[(.int .i64 x.V),(.int .i64 x.Block),(.int .i64 x.At),(.int .i64 x.Shape.1),(.int .i64 x.Shape.2)]
def ZO(x:List Bool):List AV:=[(AV.list 1 eB false x .none)]
structure KY where
 x:Int
 y:Int
 became:List Gq
 deriving Inhabited,DecidableEq
structure Aaq where
 Args:Ar
 Mem:Ar
 Fuel:Int
 deriving Inhabited,DecidableEq
structure vh where
 Write:Bool
 At:Int
 Byte:Int
 deriving Inhabited,DecidableEq
structure Aat where
 bytes:Ar
 trace:List vh
 deriving Inhabited,DecidableEq
structure Aau where
 Code:Int
 Value:Int
 Steps:Int
 deriving Inhabited,DecidableEq
theorem mix:Tryz.prog.follows .mixedOrders=true:=by kernel_rfl
abbrev sP:=Spec Tryz.prog
abbrev OJ:=(Nat×Own)
theorem sG {f : FuncId} {fn : Func} {args : List AV} {H H' : List OJ} {res : AV} (hf : Tryz.prog.funcs[f]? = some fn) (k : ∀ Γ : H5, RgQ Tryz.prog Γ fn.ntmps H → GG Tryz.prog Γ (fK Tryz.prog Γ fn.results.toList H res H') (un (ZG fn) []) (JC args H)) (hb : fn.body.isSome = true := by kernel_rfl) (hname : (fn.name == "runtime.NumGoroutine") = false := by kernel_rfl) (hlen : Nat.ble args.length fn.ntmps = true := by kernel_rfl) (hpl : RG H = true := by kernel_rfl) : sP f args H res H' := JY mix hf k hb hname hlen hpl
def Z1:=λza zb zc zd zf zg zm=>((30000,.row 102 [(AV.list 1 Ap 0 za .none),(.int .i64 zb),(AV.list 5 Cg default zc .none),(.int .i64 zd),(AV.list 1 Ap 0 zf .none),(.omap zg),(AV.list 5 Ol default zm (.own 37006))]):Nat×Own)
def Z2:=λza=>(⟨[],[],(.bool za),[],[],[]⟩:Vj)
def Z3:=λza zb zc zd zf zg zm=>([(30000,.row 102 [(AV.list 1 Ap 0 za .none),(.int .i64 zb),(AV.list 5 Cg default zc .none),(.int .i64 zd),(AV.list 1 Ap 0 zf .none),.nilm,(AV.list 5 Ol default zg (.own 37006))]),(37006,.tok 5 211 zm)]:List OJ)
def Z4:=λza (zb:Ar)=>((za,.arr 1 3 zb.length (λi=>Ap (zb.getD i 0))):Nat×Own)
def Z5:=λza=>((.int .i64 za):AV)
def Z6:=λza=>((AV.list 1 Ap 0 za .none):AV)
def Z7:=λza=>((AV.list 2 Bo ((0:Int),(0:Int)) za .none):AV)
def Z8:=λza zb zc=>((30000,.row 137 [(Z5 za),(Z5 zb),(.omap zc)]):Nat×Own)
def Z9:=λza (zb:List Bool)=>((za,.arr 1 4 zb.length (λi=>eB (zb.getD i false))):Nat×Own)
def yJ:=λza zb zc zd zf zg zm zn=>([(Z1 za zb zc zd zf 9100005 zg),(37006,.tok 5 211 zm),(9100005,.obj (.map false .i64 zn))]:List OJ)
def cB:=λza zb zc zd=>((za,.arr 1 22 zb (Ow 1 Ap (0:Int) zc (Tag.fam zd))):Nat×Own)
def L9:=((.int .i64 (0:Int)):AV)
def YZ:=λza zb zc zd zf zg zm=>([(Z1 za zb zc zd zf 9100005 zg),(37006,.tok 5 211 zm)]:List OJ)
def Z0:=((.slice 0 0 (λ_=>[]) .exact):AV)
def fG:=((AV.list 1 Ap 0 ([]:Ar) .exact):AV)
def yK:=λza zb zc zd zf zg=>((30000,.row 102 [(Z6 za),(Z5 zb),(AV.list 5 Cg default zc .none),(Z5 zd),(Z6 zf),(.omap 8),(AV.list 5 Ol default zg (.own 37006))]):Nat×Own)
def V8:=λza zb=>((AV.list 1 Ap 0 za (.own zb)):AV)
def fH:=λza (zb:List B2)=>((za,.arr 6 70 zb.length (λi=>J6 (zb.getD i default))):Nat×Own)
def NL:=λza zb=>((AV.list 1 eB false za (.own zb)):AV)
def mW:=λza=>((3,(AV.list 5 O2 default za (.own 5003))):Nat×AV)
def UF:=λza=>((AV.list 5 Cg default za .none):AV)
def nP:=λza (zb:List Ba)=>([(za,.arr 4 67 zb.length (λi=>Eo (zb.getD i default)))]:List OJ)
def zw:=λza (zb:Ar) (zc:Ar)=>((.slice 1 (bif za then zb.length else zc.length) (λi=>bif za then Ap (zb.getD i 0) else Ap (zc.getD i 0)) .none):AV)
def vj:=λza zb zc zd zf=>((37,.arr 1 81 za (λi_=>AV.eraseAll zb ((Fc zc zd 0 [(.vsl 46 zf)]) i_))):Nat×Own)
def yL:=λza zb zc zd=>(⟨[(30000,30000),(9100002,9100002)],[],(Z5 za),[(Z8 zb zc 9100002),(9100002,.obj (.map true .i64 zd))],[],[30000,9100002]⟩:Vj)
def NM:=λza=>((AV.list 1 Lh [] za .none):AV)
def W9:=λza=>((.agg (eTFunc za)):AV)
def Xd:=λza=>((.agg (jK za)):AV)
def yM:=λza zb zc zd zf zg zm zn=>(⟨[(30000,30000),(37006,37006),(9100005,9100005)],[],(.tuple []),(yJ za zb zc zd zf zg zm zn),[],[]⟩:Vj)
def ub:=λza=>((AV.list 1 Ap 0 ([za]:Ar) .exact):AV)
def Uk:=((2,(.ptr 2 0)):Nat×AV)
def UP:=λza zb=>((za,.obj (.map true .i64 zb)):Nat×Own)
def Z33:=(⟨[(4,(AV.list 1 Ap 0 ([]:Ar) (.own 6004)))],[(6004,.tok 1 3 (([]:Ar).length))],[]⟩:St)
abbrev MK:=(Nat×AV)
def zx:=λza zb zc zd=>([(za,(AV.list 5 O2 default zb .exact)),(zc,(AV.list 5 O2 default (zd++zb) (.own 5003)))]:List MK)
def sF:=λza=>((3,(AV.list 5 Pv default za (.own 5003))):Nat×AV)
def ZA:=λza=>(⟨[],[],(Z5 za),[],[],[]⟩:Vj)
def yN:=((AV.list 2 Bo ((0:Int),(0:Int)) ([]:List Gq) .exact):AV)
def bm:=λza zb=>((za,(.int .i64 (zb:Int))):Nat×AV)
def vk:=λza zb zc=>(⟨[],[(20000,za)],(V8 zb 20000),[(20000,.tok 1 3 zc)],[],[]⟩:Vj)
def CT:=((1,(.ptr 1 0)):Nat×AV)
def Z41:=λza (zb:List Be) (zc:List Be)=>((.slice 5 (bif za then zb.length else zc.length) (λi=>bif za then Ol (zb.getD i default) else Ol (zc.getD i default)) (.own 37006)):AV)
def uc:=λza zb=>((.agg (jK (Fx (default:Ay) za zb))):AV)
def yO:=λza zb=>([(30000,.row 81 [(.vsl 35000 za)]),(Z9 35000 zb)]:List OJ)
def Q9:=λza zb=>((za,.tok 1 4 zb):Nat×Own)
def vl:=λza zb=>((AV.list 2 Bo ((0:Int),(0:Int)) za (.own zb)):AV)
def xD:=((AV.list 1 Lh [] ([]:Lj) .exact):AV)
def Z47:=λza zb zc zd=>([(za,(AV.list 5 Pv default zb .exact)),(zc,(AV.list 5 Pv default (zd++zb) (.own 5003)))]:List MK)
def vm:=λza zb=>(⟨[],[],(.tuple [(.agg (Us za)),(Z5 zb)]),[],[],[]⟩:Vj)
def kx:=λza=>(⟨[],[],(Z7 za),[],[],[]⟩:Vj)
def Vl:=λza zb=>((7,(.vsl za zb)):Nat×AV)
def nQ:=λza zb=>((7,.row 56 [za,(.vsl 77 zb)]):Nat×Own)
def Ll:=λza zb zc=>((za,.tok 5 zb zc):Nat×Own)
def xE:=λza zb zc=>(⟨[],[(20000,za)],(NL zb 20000),[(Q9 20000 zc)],[],[]⟩:Vj)
def rD:=λza zb=>((AV.list 1 Lh [] za (.own zb)):AV)
def yP:=λza zb zc zd zf zg=>((1,.row 70 [(Z5 za),(Z5 zb),(Z5 zc),(Z5 zd),(Z6 zf),(.int .u64 zg)]):Nat×Own)
def yQ:=((AV.list 6 J6 default ([]:List B2) .exact):AV)
def vn:=λza zb=>([(3,.row 81 [(.vsl 11 za)]),(Z9 11 zb)]:List OJ)
def rE:=λza=>(⟨[],[],(W9 za),[],[],[]⟩:Vj)
def Yt:=λza zb=>((za,.tok 1 3 zb):Nat×Own)
def Z60:=λza zb zc zd zf=>([(za,(AV.list 5 Cg default zb .exact)),(zc,(AV.list 5 Cg default (zd++zb) (.own zf)))]:List MK)
def Z61:=λza (zb:List Ae) (zc:List Ae)=>((.slice 5 (bif za then zb.length else zc.length) (λi=>bif za then Cg (zb.getD i default) else Cg (zc.getD i default)) .none):AV)
def Z62:=λza zb zc zd zf zg zm zn zp=>(⟨[(30000,30000),(37006,37006),(9100005,9100005)],[],(.agg (NW za)),(yJ zb zc zd zf zg zm zn zp),[],[]⟩:Vj)
def Z63:=λza (zb:Ar) (zc:Ar)=>((.slice 1 (bif (za==true) then zb.length else zc.length) (λi=>bif (za==true) then Ap (zb.getD i 0) else Ap (zc.getD i 0)) .none):AV)
def Pu:=λza zb=>((2,.row za zb):Nat×Own)
def ZB:=((4,(.ptr 4 0)):Nat×AV)
def zy:=λza zb zc zd zf zg zm zn=>(⟨[(30000,30000),(37006,37006)],[],(.bool za),(Z3 zb zc zd zf zg zm zn),[],[]⟩:Vj)
def Z67:=(⟨[(2,(AV.list 2 Bo ((0:Int),(0:Int)) ([]:List Gq) (.own 6002)))],[(6002,.tok 2 90 (([]:List Gq).length))],[]⟩:St)
def vo:=λza zb=>((AV.list 5 Cg default za (.own zb)):AV)
def yR:=λ(za:Ar)=>((6,.arr 1 231 64 (λi=>Ap (za.getD i 0))):Nat×Own)
def mX:=λza=>((2,.row 56 [za,za]):Nat×Own)
def Z71:=λza=>((za,.arr 1 3 (([]:Ar).length) (λi=>Ap (([]:Ar).getD i 0))):Nat×Own)
def Z72:=λza zb zc=>([(za,.arr 1 3 zb (λi=>Ap ((List.replicate (zc:Int).toNat (0:Int)).getD i 0)))]:List OJ)
def sH:=λza zb=>([(.agg (Us za)),(Z5 zb)]:List AV)
def Z74:=λ(za:List Gq)=>([(30,.arr 2 90 za.length (λi=>Bo (za.getD i ((0:Int),(0:Int)))))]:List OJ)
def vp:=λza zb=>((AV.list 6 J6 default za (.own zb)):AV)
def nR:=((6,(.vpt 6 64 0 0)):Nat×AV)
def ud:=λza zb zc=>((.int .i64 (bif za then zb else zc)):AV)
def Z78:=λza zb zc=>((.agg [za,(.int .i64 (8:Int)),zb,(.int .i64 (2:Int)),zc,(.int .u64 (8:Int))]):AV)
def Z79:=λza zb zc zd zf zg zm zn zp=>(⟨[(30000,30000),(37006,37006),(9100005,9100005)],[],(.bool za),(yJ zb zc zd zf zg zm zn zp),[],[]⟩:Vj)
def z6:=((AV.list 1 Lh [] ([]:Lj) .none):AV)
def fI:=λza=>([(.agg (J6 za))]:List AV)
def nS:=((5,(.vpt 5 64 0 0)):Nat×AV)
def eZ:=((5,(.ptr 5 0)):Nat×AV)
def z7:=((AV.list 1 Ap 0 ([(1:Int)]:Ar) .exact):AV)
def Z85:=λza zb zc zd zf zg=>(⟨[(30000,30000),(9100002,9100002)],[(20000,za)],(V8 zb 20000),[(Z8 zc zd 9100002),(UP 9100002 zf),(Yt 20000 zg)],[],[30000,9100002]⟩:Vj)
def xF:=λza=>((AV.list 4 Eo default za .none):AV)
def yS:=λza=>(⟨[],[],(.agg (Bo za)),[],[],[]⟩:Vj)
def mY:=λza=>((0,(.vsl 34000 za)):Nat×AV)
def vq:=λza zb=>([(.int .u64 za),(.int .u64 zb)]:List AV)
def ue:=((.int .i64 (1:Int)):AV)
def mZ:=λza=>((6,.arr 1 231 64 za):Nat×Own)
def xG:=λza=>((AV.list 6 J6 default za .none):AV)
def z8:=λza zb=>(⟨[],[],(.tuple [(Z5 za),(Z5 zb)]),[],[],[]⟩:Vj)
def Z94:=λza zb=>(⟨[(3,30000),(11,35000)],[],(.tuple []),(yO za zb),[],[]⟩:Vj)
def Z95:=λza=>((AV.list 1 Ap 0 ([]:Ar) (.own za)):AV)
def Z96:=λza zb zc=>((.agg [za,(.int .i64 (8:Int)),zb,zb,zc,(.int .u64 (7:Int))]):AV)
def yT:=λza zb zc zd=>((37,.arr 1 81 za (Fc zb zc 0 [(.vsl 46 zd)])):Nat×Own)
def yU:=λza zb zc=>([(za,.row 137 [(Z5 zb),(Z5 zc),.nilm])]:List OJ)
def Z99:=λza zb=>(⟨[(30000,30000),(37006,37006)],[],(Z5 za),zb,[],[]⟩:Vj)
def vi:=λza zb zc zd zf=>([(za,(ub zb)),(zc,(AV.list 1 Ap 0 (zd++([zb]:Ar)) (.own zf)))]:List MK)
def OQ:=λza=>((5,.arr 1 230 64 za):Nat×Own)
def OR:=([(.ptr 30000 0)]:List AV)
def b8:=λza zb zc=>([(Z5 za),(Z5 zb),(.omap zc)]:List AV)
def cA:=((0,(.ptr 30000 0)):Nat×AV)
def Vk:=λza zb=>((5,(.vsl za zb)):Nat×AV)

abbrev uM:=(LR (Int×Int) Int)
def Qn(a0:TFunc):Gq->Option uM:=
 λ((i1,i2):Gq)=>(bif (decide (i2<(a0.Blocks.length:Int))) then(A0 (A1 i2 a0.Blocks.length) (some (.next ((w64 (i1+(w64 ((((a0.Blocks.getD i2.toNat default).Phis).length:Int)+(((a0.Blocks.getD i2.toNat default).Ops).length:Int))))),(w64 (i2+1)))))) else(some (.done i1)))
def Ha(a0:TFunc):Option Int:=
 ((Ac (Qn a0) ((a0.Blocks.length:Int),(0:Int))).bind (λx5=>(some x5)))
variable{v0:TFunc}{v1:Int}
theorem Q0(h:Ha v0=some v1):sP 49 [(W9 v0)] [] (.int .i64 v1) []:=
 sG Tryz.func49 λΓ q=>tW q [1] [1] L7 [1] (Af q CR [] (tL q h CR [] (λu (i1,i2)=>(Cl u [(3,(Z5 i1)),(12,(Z5 i2))] [])) (λu i3=>aG Γ (.exit 0) (⟨[(3,(Z5 i3))],[],[]⟩:St)) (λ⟨i1,i2⟩ y h=>Af q [3,10,11,12,13] [] (gC h (λh=>tV q [3,5,10,11,12] [5] h λh=>tW q CR [] CR [] (tN h)) λh=>tS h (gO (Bd (Bi [3] [] q))))) λx5 h=>gA (Af q [2] [] (tS h (Cc [])))))
def Kj(a9:Ar):Int->Option (LR Int (Unit ⊕ Bool)):=
 λ(i1:Int)=>(bif (decide (i1<(a9.length:Int))) then(A0 (A1 i1 a9.length) (bif (bif (decide ((a9.getD i1.toNat 0)<0)) then true else(decide ((2147483647:Int)<(a9.getD i1.toNat 0)))) then(some (.done (.inr false))) else(some (.next (w64 (i1+1)))))) else(some (.done (.inl ()))))
def GJ(Γ:H5)(a9:Ar)(r:Bool):Exit->St->Prop:=fK Tryz.prog Γ Tryz.f181.results.toList [] (.bool r) []
def D9(a9:Ar):Option Bool:=
 ((Ac (Kj a9) (0:Int)).bind (λx3=>(match x3 with|(.inl _)=>(some true)|(.inr r5)=>(some r5))))
variable{v2:Ar}{v3:Bool}
theorem Ht(h:D9 v2=some v3):sP 181 [(Z6 v2)] [] (.bool v3) []:=
 sG Tryz.func181 λΓ q=>tW q [0] [] [5,6,7] [] (tL q h [5,6,7] [] (λu i1=>(Cl u [(7,(Z5 i1))] [])) (λu x_=>match x_ with|(.inl _)=>aG Γ (.exit 0) (⟨[],[],[]⟩:St)|(.inr r_)=>aR (GJ Γ v2 r_)) (λi1 y h=>Af q [5,6,7,8] [] (gC h (λh=>tV q [4,5,6,7] [] h λh=>tU q [5,6,7,16] [] (c2 (gI ((decide ((v2.getD i1.toNat 0)<0))==false)) (Ng (decide ((v2.getD i1.toNat 0)<0)))) (gC h (λh=>Af q [2] [] (tS h (gO (Lm (H6 [] (Le.refl _ _)))))) λh=>Af q [5,6,7] [] (tN h))) λh=>tS h (gO (Bd (Bi [] [] q))))) λx3 h=>(match x3,h with | .inl _,h=>gA (Af q [2] [] (tS h (Cc []))) | .inr r5,h=>O3 (λst' hk=>tS h (gK hk))))
def Ir(a9:Ar):Option Bool:=
 ((bif ((decide ((a9.length:Int)<=64))==true) then D9 a9 else some false).bind λx1=>(some (bif (decide ((a9.length:Int)<=64)) then x1 else false)))
theorem Oh(h:Ir v2=some v3):sP 263 [(Z6 v2)] [] (.bool v3) []:=
 sG Tryz.func263 λΓ q=>Af q [0] [] (tB h λx1 y1 h=>tT q [2] [] [(Z2 x1)] (c3 (gI ((decide ((v2.length:Int)<=64))==true)) (λ(hg:((decide ((v2.length:Int)<=64))==true)=true)=>(Ht (Bq hg y1))) (Nh (decide ((v2.length:Int)<=64)))) (tS h (Cc [])))
def Qp(aV:Ba):Option Bool:=
 ((D9 ([aV.Bits,aV.Dst]:Ar)).bind λx1=>((bif (x1==true) then Ir aV.From else some false).bind λx2=>((bif ((bif x1 then x2 else false)==true) then Ir aV.Args else some false).bind λx3=>(some (bif (bif x1 then x2 else false) then x3 else false)))))
variable{v4:Ba}
theorem NE(h:Qp v4=some v3):sP 227 [(.agg (Eo v4))] [] (.bool v3) []:=
 sG Tryz.func227 λΓ q=>Af q [1] [1] (tB h λx1 y1 h=>tB h λx2 y2 h=>tB h λx3 y3 h=>gR q [2] [] [(7,(AV.list 1 Ap 0 ([v4.Bits,v4.Dst]:Ar) .exact))] [(Z2 x1),(Z2 x2),(Z2 x3)] (ed (Bp 1 Ap (0:Int) ([v4.Bits,v4.Dst]:Ar)) (Ht y1) (M4 (x1==true) (ed (λ(hg:(x1==true)=true)=>(Oh (Bq hg y2))) (Nh x1) (M4 ((bif x1 then x2 else false)==true) (c2 (λ(hg:((bif x1 then x2 else false)==true)=true)=>(Oh (Bq hg y3))) (Nh (bif x1 then x2 else false))))))) (tS h (Cc [])))
def Hw(a9:List Ba):Int->Option (LR Int (Unit ⊕ Bool)):=
 λ(i1:Int)=>(bif (decide (i1<(a9.length:Int))) then(A0 (A1 i1 a9.length) ((Qp (a9.getD i1.toNat default)).bind λx3=>(bif (!x3) then(some (.done (.inr false))) else(some (.next (w64 (i1+1))))))) else(some (.done (.inl ()))))
def Zf(Γ:H5)(a9:List Ba)(r:Bool):Exit->St->Prop:=fK Tryz.prog Γ Tryz.f226.results.toList [] (.bool r) []
def Jx(a9:List Ba):Option Bool:=
 ((Ac (Hw a9) (0:Int)).bind (λx4=>(match x4 with|(.inl _)=>(some true)|(.inr r6)=>(some r6))))
variable{v5:List Ba}
theorem X2(h:Jx v5=some v3):sP 226 [(xF v5),(.clo 227 [] [])] [] (.bool v3) []:=
 sG Tryz.func226 λΓ q=>tW q Gn [] Nc [] (tL q h Nc [] (λu i1=>(Cl u [(9,(Z5 i1))] [])) (λu x_=>match x_ with|(.inl _)=>aG Γ (.exit 0) (⟨[],[],[]⟩:St)|(.inr r_)=>aR (Zf Γ v5 r_)) (λi1 y h=>Af q MS [] (gC h (λh=>tV q MT [6] h λh=>tB h λx3 y3 h=>tT q UC [] [(Z2 x3)] (c1 (NE y3)) (gC h (λh=>Af q [4] [] (tS h (gO (Lm (H6 [] (Le.refl _ _)))))) λh=>Af q Nc [] (tN h))) λh=>tS h (gO (Bd (Bi [] [] q))))) λx4 h=>(match x4,h with | .inl _,h=>gA (Af q [4] [] (tS h (Cc []))) | .inr r6,h=>O3 (λst' hk=>tS h (gK hk))))
def R4(a1:B2):Option Bool:=
 ((D9 ([a1.Kind,a1.Bits,a1.Lanes,a1.Dst]:Ar)).bind λx1=>((bif (x1==true) then Ir a1.Args else some false).bind λx2=>(some (bif x1 then x2 else false))))
variable{v6:B2}
theorem QU(h:R4 v6=some v3):sP 229 (fI v6) [] (.bool v3) []:=
 sG Tryz.func229 λΓ q=>Af q [1] [1] (tB h λx1 y1 h=>tB h λx2 y2 h=>gR q [2] [] [(11,(AV.list 1 Ap 0 ([v6.Kind,v6.Bits,v6.Lanes,v6.Dst]:Ar) .exact))] [(Z2 x1),(Z2 x2)] (ed (Bp 1 Ap (0:Int) ([v6.Kind,v6.Bits,v6.Lanes,v6.Dst]:Ar)) (Ht y1) (M4 (x1==true) (c2 (λ(hg:(x1==true)=true)=>(Oh (Bq hg y2))) (Nh x1)))) (tS h (Cc [])))
def Ig(a9:List B2):Int->Option (LR Int (Unit ⊕ Bool)):=
 λ(i1:Int)=>(bif (decide (i1<(a9.length:Int))) then(A0 (A1 i1 a9.length) ((R4 (a9.getD i1.toNat default)).bind λx3=>(bif (!x3) then(some (.done (.inr false))) else(some (.next (w64 (i1+1))))))) else(some (.done (.inl ()))))
def AC(Γ:H5)(a9:List B2)(r:Bool):Exit->St->Prop:=fK Tryz.prog Γ Tryz.f228.results.toList [] (.bool r) []
def Ki(a9:List B2):Option Bool:=
 ((Ac (Ig a9) (0:Int)).bind (λx4=>(match x4 with|(.inl _)=>(some true)|(.inr r6)=>(some r6))))
variable{v7:List B2}
theorem Zn(h:Ki v7=some v3):sP 228 [(xG v7),(.clo 229 [] [])] [] (.bool v3) []:=
 sG Tryz.func228 λΓ q=>tW q Gn [] Nc [] (tL q h Nc [] (λu i1=>(Cl u [(9,(Z5 i1))] [])) (λu x_=>match x_ with|(.inl _)=>aG Γ (.exit 0) (⟨[],[],[]⟩:St)|(.inr r_)=>aR (AC Γ v7 r_)) (λi1 y h=>Af q MS [] (gC h (λh=>tV q MT [6] h λh=>tB h λx3 y3 h=>tT q UC [] [(Z2 x3)] (c1 (QU y3)) (gC h (λh=>Af q [4] [] (tS h (gO (Lm (H6 [] (Le.refl _ _)))))) λh=>Af q Nc [] (tN h))) λh=>tS h (gO (Bd (Bi [] [] q))))) λx4 h=>(match x4,h with | .inl _,h=>gA (Af q [4] [] (tS h (Cc []))) | .inr r6,h=>O3 (λst' hk=>tS h (gK hk))))
def Qo(aK:Kb):Option Bool:=
 ((D9 ([aK.Kind,aK.Arg]:Ar)).bind λx1=>((bif (x1==true) then Ir aK.To else some false).bind λx2=>(some (bif x1 then x2 else false))))
variable{v8:Kb}
theorem ND(h:Qo v8=some v3):sP 230 [(.agg (jJ v8))] [] (.bool v3) []:=
 sG Tryz.func230 λΓ q=>Af q [1] [1] (tB h λx1 y1 h=>tB h λx2 y2 h=>gR q [2] [] [(7,(AV.list 1 Ap 0 ([v8.Kind,v8.Arg]:Ar) .exact))] [(Z2 x1),(Z2 x2)] (ed (Bp 1 Ap (0:Int) ([v8.Kind,v8.Arg]:Ar)) (Ht y1) (M4 (x1==true) (c2 (λ(hg:(x1==true)=true)=>(Oh (Bq hg y2))) (Nh x1)))) (tS h (Cc [])))
def Oe(aJ:Ae):Option Bool:=
 ((Jx aJ.Phis).bind λx1=>((bif (x1==true) then Ki aJ.Ops else some false).bind λx2=>((bif ((bif x1 then x2 else false)==true) then Qo (⟨aJ.End.Kind,aJ.End.Arg,aJ.End.To⟩:Kb) else some false).bind λx3=>(some (bif (bif x1 then x2 else false) then x3 else false)))))
variable{v9:Ae}
theorem HQ(h:Oe v9=some v3):sP 183 [(.agg (Cg v9))] [] (.bool v3) []:=
 sG Tryz.func183 λΓ q=>Af q [1] [1] (tB h λx1 y1 h=>tB h λx2 y2 h=>tB h λx3 y3 h=>tT q [2] [] [(Z2 x1),(Z2 x2),(Z2 x3)] (ci (X2 y1) (M4 (x1==true) (ed (λ(hg:(x1==true)=true)=>(Zn (Bq hg y2))) (Nh x1) (M4 ((bif x1 then x2 else false)==true) (c2 (λ(hg:((bif x1 then x2 else false)==true)=true)=>(ND (Bq hg y3))) (Nh (bif x1 then x2 else false))))))) (tS h (Cc [])))
def Gx(a9:List Ae):Int->Option (LR Int (Unit ⊕ Bool)):=
 λ(i1:Int)=>(bif (decide (i1<(a9.length:Int))) then(A0 (A1 i1 a9.length) ((Oe (a9.getD i1.toNat default)).bind λx3=>(bif (!x3) then(some (.done (.inr false))) else(some (.next (w64 (i1+1))))))) else(some (.done (.inl ()))))
def Wb(Γ:H5)(a9:List Ae)(r:Bool):Exit->St->Prop:=fK Tryz.prog Γ Tryz.f182.results.toList [] (.bool r) []
def Ie(a9:List Ae):Option Bool:=
 ((Ac (Gx a9) (0:Int)).bind (λx4=>(match x4 with|(.inl _)=>(some true)|(.inr r6)=>(some r6))))
variable{v10:List Ae}
theorem Vw(h:Ie v10=some v3):sP 182 [(UF v10),(.clo 183 [] [])] [] (.bool v3) []:=
 sG Tryz.func182 λΓ q=>tW q Gn [] Nc [] (tL q h Nc [] (λu i1=>(Cl u [(9,(Z5 i1))] [])) (λu x_=>match x_ with|(.inl _)=>aG Γ (.exit 0) (⟨[],[],[]⟩:St)|(.inr r_)=>aR (Wb Γ v10 r_)) (λi1 y h=>Af q MS [] (gC h (λh=>tV q MT [6] h λh=>tB h λx3 y3 h=>tT q UC [] [(Z2 x3)] (c1 (HQ y3)) (gC h (λh=>Af q [4] [] (tS h (gO (Lm (H6 [] (Le.refl _ _)))))) λh=>Af q Nc [] (tN h))) λh=>tS h (gO (Bd (Bi [] [] q))))) λx4 h=>(match x4,h with | .inl _,h=>gA (Af q [4] [] (tS h (Cc []))) | .inr r6,h=>O3 (λst' hk=>tS h (gK hk))))
def Q14(a0:TFunc):=(decide ((a0.Blocks.length:Int)<1))
def ze(a0:TFunc):=(decide ((16:Int)<(a0.Params.length:Int)))
def Xu(a0:TFunc):Option Bool:=
 (bif (bif (decide ((a0.Blocks.length:Int)<1)) then true else(decide ((64:Int)<(a0.Blocks.length:Int)))) then(some false) else((bif ((decide ((16:Int)<(a0.Params.length:Int)))==false) then Ha a0 else some (0:Int)).bind λx1=>(bif (bif (decide ((16:Int)<(a0.Params.length:Int))) then true else(decide ((512:Int)<x1))) then(some false) else((D9 a0.Params).bind λx2=>((bif (x2==true) then D9 ([a0.Ret]:Ar) else some false).bind λx3=>((bif ((bif x2 then x3 else false)==true) then Ie a0.Blocks else some false).bind λx4=>(some (bif (bif x2 then x3 else false) then x4 else false))))))))
theorem dW(h:Xu v0=some v3):sP 130 [(W9 v0)] [] (.bool v3) []:=
 sG Tryz.func130 λΓ q=>Af q [1] [1] (tU q [1,12] [1] (Vm ((Q14 v0)==false) (c1 (Ng (Q14 v0)))) (gC h (λh=>Af q [2] [] (tS h (Cc []))) λh=>tB h λx1 y1 h=>tT q [1,21] [1] [(ZA x1)] (c4 (gI ((ze v0)==false)) (λ(hg:((ze v0)==false)=true)=>(Q0 (Bq hg y1))) (gI ((ze v0)==false)) (Ng (ze v0))) (gC h (λh=>Af q [2] [] (tS h (Cc []))) λh=>tB h λx2 y2 h=>tB h λx3 y3 h=>tB h λx4 y4 h=>gR q [2] [] [(28,(ub v0.Ret))] [(Z2 x2),(Z2 x3),(Z2 x4)] (ci (Ht y2) (M4 (x2==true) (d4_ (show((x2==true)=true->(AVle (.slice 1 1 (λi=>([[(Z5 v0.Ret)]]:List (List AV)).getD i []) .exact) (ub v0.Ret))) from(λhg=>@(Bp 1 Ap (0:Int) ([v0.Ret]:Ar)))) (gI (x2==true)) (λ(hg:(x2==true)=true)=>(Ht (Bq hg y3))) (Nh x2) (M4 ((bif x2 then x3 else false)==true) (c2 (λ(hg:((bif x2 then x3 else false)==true)=true)=>(Vw (Bq hg y4))) (Nh (bif x2 then x3 else false))))))) (tS h (Cc [])))))
def Nq(aaF:Bool)(aK:Int):Option Int:=
 (bif aaF then(some (0:Int)) else(some aK))
variable{v11:Int}
theorem Yz(h:Nq v3 v1=some v11):sP 150 [(.bool v3),(Z5 v1)] [] (.int .i64 v11) []:=
 sG Tryz.func150 λΓ q=>tW q Gn [] [1,5] [] (gC h (λh=>Af q [4] [] (tS h (Cc []))) λh=>Af q [4] [] (tS h (Cc [])))
abbrev mR:=(Int×TFunc×Int×Ar×List Be)
def Kg(a3:TFunc)(a5:Int)(a7:Ar)(aA:List Be):Option mR:=
 ((Xu a3).bind λx1=>((Nq x1 (4:Int)).bind λx2=>(some (x2,a3,a5,a7,aA))))
variable{v12:List Be}{v13:mR}
theorem Zl(h:Kg v0 v1 v2 v12=some v13):sP 104 OR (Z3 v0.Params v0.Ret v0.Blocks v1 v2 v12 v12.length) (Z5 v13.1) (Z3 v13.2.1.Params v13.2.1.Ret v13.2.1.Blocks v13.2.2.1 v13.2.2.2.1 v13.2.2.2.2 v13.2.2.2.2.length):=
 sG Tryz.func104 λΓ q=>Af q [0] Iy (tB h λx1 y1 h=>tB h λx2 y2 h=>tT q [2] Iy [(Z2 x1),(ZA x2)] (c2 (dW y1) (Yz y2)) (tS h (Cc Zb)))
def Ml(aS:Int):Option Bool:=
 (some (bif (decide ((1:Int)<=aS)) then(decide (aS<=64)) else false))
theorem Wm(h:Ml v1=some v3):sP 135 [(Z5 v1)] [] (.bool v3) []:=
 sG Tryz.func135 λΓ q=>Af q [0] [] (tU q [2] [] (c2 (gI ((decide ((1:Int)<=v1))==true)) (Nh (decide ((1:Int)<=v1)))) (tS h (Cc [])))
def Ka(aM:Int)(aS:Int):Option Bool:=
 (some (bif (decide ((0:Int)<=aM)) then(decide (aM<aS)) else false))
theorem Rs(h:Ka v1 v11=some v3):sP 188 [(Z5 v1),(Z5 v11)] [] (.bool v3) []:=
 sG Tryz.func188 λΓ q=>Af q Gn [] (tU q [4] [] (M4 ((decide ((0:Int)<=v1))==true) (c1 (Nh (decide ((0:Int)<=v1))))) (tS h (Cc [])))
def F3(aK:Kb)(aS:Int):Int->Option (LR Int (Unit ⊕ Bool)):=
 λ(i7:Int)=>(bif (decide (i7<(aK.To.length:Int))) then(A0 (A1 i7 aK.To.length) ((bif (((aK.To.getD i7.toNat 0)==0)==false) then Ka (aK.To.getD i7.toNat 0) aS else some false).bind λx9=>(bif (bif ((aK.To.getD i7.toNat 0)==0) then true else(!x9)) then(some (.done (.inr false))) else(some (.next (w64 (i7+1))))))) else(some (.done (.inl ()))))
def Yq(Γ:H5)(aK:Kb)(aS:Int)(r:Bool):Exit->St->Prop:=fK Tryz.prog Γ Tryz.f136.results.toList [] (.bool r) []
def zh(aK:Kb)(i7:Int):=((aK.To.getD i7.toNat 0)==0)
def Pg(aK:Kb)(aS:Int):Option Bool:=
 (Option.bind (α:=(Int ⊕ Bool)) (Option.bind (α:=Bool) (bif (aK.Kind==0) then(some (aK.Kind==0)) else(some (aK.Kind==3))) (λx3=>(bif x3 then(some (.inl (0:Int))) else(bif (aK.Kind==1) then(some (.inl (1:Int))) else(bif (aK.Kind==2) then(some (.inl (2:Int))) else(some (.inr false))))))) (λx5=>(match x5 with|(.inl i1)=>(bif ((aK.To.length:Int)!=i1) then(some false) else((Ac (F3 aK aS) (0:Int)).bind (λx10=>(match x10 with|(.inl _)=>(some true)|(.inr r12)=>(some r12)))))|(.inr r13)=>(some r13))))
theorem JS(h:Pg v8 v1=some v3):sP 136 [(.agg (jJ v8)),(Z5 v1)] [] (.bool v3) []:=
 sG Tryz.func136 λΓ q=>tW q Ee [2] V4 [2] (tB h λx5 y5 h=>gJ y5 (λx_=>match x_ with|(.inl i1)=>aG Γ .normal (⟨[(1,(Z5 v1)),Uk,(5,(Z5 i1))],[(2,.row 62 [(Z5 v8.Kind),(Z5 v8.Arg),(Z6 v8.To)])],[]⟩:St)|(.inr r_)=>aR (Yq Γ v8 v1 r_)) (λy h=>Af q [1,2,5,9] [2] (tB h λx3 y3 h=>gJ y3 (λb2=>aG Γ .normal (⟨[(1,(Z5 v1)),Uk,(5,L9),(9,(Z5 v8.Kind)),(10,(.bool b2))],[(2,.row 62 [(Z5 v8.Kind),(Z5 v8.Arg),(Z6 v8.To)])],[]⟩:St)) (λy h=>Af q [1,2,5,9,10] [2] (gC h (λh=>tS h (gK (Bd Iq))) λh=>Af q [1,2,5,9,10] [2] (tS h (gK (Bd Iq))))) (gA (gC h (λh=>tS h (gK (Bd (Bi V4 [2] q)))) λh=>Af q [1,2,9,13] [2] (gC h (λh=>Af q V4 [2] (tS h (gK (Bd Iq)))) λh=>Af q [1,2,15] [2] (gC h (λh=>Af q V4 [2] (tS h (gK (Bd Iq)))) λh=>Af q [4] [] (tS h (gK (Lm (H6 [] (Le.refl _ _))))))))))) (match x5,h with | .inl i1,h=>gA (Af q [1,2,21] [2] (gC h (λh=>Af q [4] [] (tS h (Cc []))) λh=>Af q iR [] (tL q h iR [] (λu i7=>(Cl u [(25,(Z5 i7))] [])) (λu x_=>match x_ with|(.inl _)=>aG Γ (.exit 1) (⟨[],[],[]⟩:St)|(.inr r_)=>aR (Yq Γ v8 v1 r_)) (λi7 y h=>Af q [1,23,24,25,26] [] (gC h (λh=>tV q [1,7,23,24,25] [] h λh=>tB h λx9 y9 h=>tT q [1,23,24,25,36] [] [(Z2 x9)] (M4 ((zh v8 i7)==false) (c3 (λ(hg:((zh v8 i7)==false)=true)=>(Rs (Bq hg y9))) (gI ((zh v8 i7)==false)) (Ng (zh v8 i7)))) (gC h (λh=>Af q [4] [] (tS h (gO (Lm (H6 [] (Le.refl _ _)))))) λh=>Af q iR [] (tN h))) λh=>tS h (gO (Bd (Bi [] [] q))))) λx10 h=>(match x10,h with | .inl _,h=>gA (Af q [4] [] (tS h (Cc []))) | .inr r12,h=>O3 (λst' hk=>tS h (gK hk)))))) | .inr r13,h=>O3 (λst' hk=>tS h (gK hk))))
abbrev rJ:=(Int×Lj)
abbrev yT6:=(LR (Int×Lj) Lj)
def M5(a6:Lj)(i2:Int):rJ->Option yT6:=
 λ((i6,l7):rJ)=>(bif (decide (i6<((a6.getD i2.toNat []).length:Int))) then(A0 (A1 i6 (a6.getD i2.toNat []).length) (A0 (A1 ((a6.getD i2.toNat []).getD i6.toNat 0) l7.length) (A0 (A1 ((a6.getD i2.toNat []).getD i6.toNat 0) l7.length) (A0 ((l7.getD ((a6.getD i2.toNat []).getD i6.toNat 0).toNat []).length+([i2]:Ar).length<=room) (A0 (A1 ((a6.getD i2.toNat []).getD i6.toNat 0) l7.length) (some (.next ((w64 (i6+1)),(l7.set ((a6.getD i2.toNat []).getD i6.toNat 0).toNat ((l7.getD ((a6.getD i2.toNat []).getD i6.toNat 0).toNat [])++([i2]:Ar))))))))))) else(some (.done l7)))
def Kk(a6:Lj):rJ->Option yT6:=
 λ((i2,l3):rJ)=>(bif (decide (i2<(a6.length:Int))) then(A0 (A1 i2 a6.length) ((Ac (M5 a6 i2) ((0:Int),l3)).bind (λx14=>(some (.next ((w64 (i2+1)),x14)))))) else(some (.done l3)))
def rO(i2:Int):=([i2]:Ar)
def mU(a6:Lj)(i2:Int)(i6:Int):=((a6.getD i2.toNat []).getD i6.toNat 0)
def mp(l7:Lj)(a6:Lj)(i2:Int)(i6:Int):=(l7.getD (mU a6 i2 i6).toNat [])
def u6(a6:Lj):=(List.replicate (a6.length:Int).toNat ([]:Ar))
def xR(l7:Lj)(a6:Lj)(i2:Int)(i6:Int):=(l7.set (mU a6 i2 i6).toNat ((mp l7 a6 i2 i6)++(rO i2)))
def Q19(a6:Lj):List MK:=[(0,(NM a6)),(3,(.vsl 10 (a6.length:Int).toNat))]
def Q18(l7:Lj)(i2:Int)(a6:Lj)(i6:Int):List MK:=[(3,(.vsl 10 l7.length)),(4,(Z5 i2)),(11,(NM a6)),(bm 12 a6.length),(13,(Z5 i2)),(18,(AV.list 1 Ap 0 (a6.getD i2.toNat []) .none)),(19,(.int .i64 ((a6.getD i2.toNat []).length:Int))),(20,(Z5 i6))]
def Q22(l7:Lj)(i2:Int)(a6:Lj)(i6:Int):List MK:=[(3,(.vsl 10 l7.length)),(4,(Z5 i2)),(7,(Z5 (mU a6 i2 i6))),(11,(NM a6)),(bm 12 a6.length),(13,(Z5 i2)),(18,(AV.list 1 Ap 0 (a6.getD i2.toNat []) .none)),(19,(.int .i64 ((a6.getD i2.toNat []).length:Int))),(20,(Z5 i6))]
def Ns(a6:Lj):Option Lj:=
 (A0 (0<=(a6.length:Int)/\(a6.length:Int)<=(a6.length:Int)/\(a6.length:Int)<=(room:Int)) ((Ac (Kk a6) ((0:Int),(List.replicate (a6.length:Int).toNat ([]:Ar)))).bind (λx16=>(some x16))))
variable{v14:Lj}{v15:Lj}
theorem Y1(h:Ns v14=some v15):sP 138 [(NM v14)] [] (rD v15 20000) [(20000,.tok 1 22 v15.length)]:=
 sG Tryz.func138 λΓ q=>have hΓ:=q.own;gR q [0] [] [(2,xD)] [] (c1 (B0 1 Lh [])) (tV q Rj [10] h λh=>Qc (⟨(Q19 v14),[(10,.arr 1 22 ((v14.length:Int).toNat) (λi_=>AV.eraseAll (λn_=>Bw n_ [10]) ((λ_=>[Z0]) i_)))],[]⟩:St) (gLe (Le.trans (I8 (st':=⟨(Q19 v14),[(10,.arr 1 22 ((v14.length:Int).toNat) (Ow 1 Ap (0:Int) (u6 v14) (λ_=>.exact)))],[]⟩) (TmpsLe.refl _) (.arr cf .nil)) (Le.trans (Le.trans (cu (r:=10) (b:=70010) Ap (0:Int) (u6 v14) 3 rfl rfl (N9 ..).symm (λh_=>absurd h_ (by decide))) (Gt (st':=⟨(Q19 v14),[(10,.arr 1 22 ((v14.length:Int).toNat) (Ow 1 Ap (0:Int) (u6 v14) (Tag.fam 70010)))],[(70010,⟨1,3,Nm (u6 v14)⟩)]⟩) (by kernel_rfl))) (Gt (Bg (λk_:Nat=>(⟨[(0,(NM v14)),(3,(.vsl 10 k_))],[(cB 10 k_ (u6 v14) 70010)],[(70010,⟨1,3,Nm (u6 v14)⟩)]⟩:St)) (show(v14.length:Int).toNat=(u6 v14).length from(N9 ..).symm))))) (Af q TA Vi (tL q h TA Vi (λu (i2,l3)=>(Cl u [(3,(.vsl 10 l3.length)),(13,(Z5 i2))] [(cB 10 l3.length l3 70010)] [(70010,⟨1,3,Nm l3⟩)])) (λu l4=>aG Γ (.exit 0) (⟨[(3,(.vsl 10 l4.length))],[(cB 10 l4.length l4 70010)],[(70010,⟨1,3,Nm l4⟩)]⟩:St)) (λ⟨i2,l3⟩ y h=>Af q [3,11,12,13,14] Vi (gC h (λh=>tV q [3,4,5,11,12,13] Vi h λh=>Af q kI Vi (tL q h kI Vi (λu (i6,l7)=>(Cl u [(3,(.vsl 10 l7.length)),(20,(Z5 i6))] [(cB 10 l7.length l7 70010)] [(70010,⟨1,3,Nm l7⟩)])) (λu l8=>aG Γ (.exit 2) (Ni TA Vi u [(3,(.vsl 10 l8.length))] [(cB 10 l8.length l8 70010)] [(70010,⟨1,3,Nm l8⟩)])) (λ⟨i6,l7⟩ y h=>Af q [3,4,11,12,13,18,19,20,21] Vi (gC h (λh=>tV q [3,4,7,11,12,13,18,19,20] Vi h λh=>Qc (⟨(Q22 l7 i2 v14 i6),[(cB 10 l7.length l7 70010)],[(70010,⟨1,3,Nm l7⟩)]⟩:St) (tC h λc10_ h=>tC h λc11_ h=>tC h λc12_ h=>tC h λc13_ h=>gLe (Le.trans (jY (r:=10) (b:=70010) (k:=60010) Ap (0:Int) l7 (mU v14 i2 i6).toNat 3 rfl rfl rfl rfl (Qm c10_) (by kernel_rfl) (.here .nil)) (Gt (st':=⟨(Q22 l7 i2 v14 i6),[(10,.arr 1 22 l7.length (Ow 1 Ap (0:Int) l7 (Hq 70010 (mU v14 i2 i6).toNat 60010))),(60010,.tok 1 3 ((mp l7 v14 i2 i6).length))],[(70010,⟨1,3,AY l7 (mU v14 i2 i6).toNat⟩)]⟩) (by kernel_rfl))) (gR q kI [10,60010,70010] [(29,(V8 (mp l7 v14 i2 i6) 60010)),(31,(AV.list 1 Ap 0 (rO i2) .exact)),(32,(AV.list 1 Ap 0 ((mp l7 v14 i2 i6)++(rO i2)) (.own 60010)))] [] (d9_ c11_ (Eq.refl l7.length) (show(AVle (((Ow 1 Ap (0:Int) l7 (Hq 70010 (mU v14 i2 i6).toNat 60010)) (mU v14 i2 i6).toNat).getD 0 .any) (V8 (mp l7 v14 i2 i6) 60010)) from VZ) (Bp 1 Ap (0:Int) (rO i2)) (Eq.refl ((mp l7 v14 i2 i6).length)) c12_ (Iz 1 60010 Ap (0:Int) (mp l7 v14 i2 i6) (rO i2)) (E3 (mp l7 v14 i2 i6) (rO i2)) c13_ (c1 (Eq.refl l7.length))) (Qc (⟨(Q18 l7 i2 v14 i6),[(10,.arr 1 22 l7.length (λi_=>AV.eraseAll (λn_=>Bw n_ [10,60010,70010]) ((Fc (Ow 1 Ap (0:Int) l7 (Hq 70010 (mU v14 i2 i6).toNat 60010)) (mU v14 i2 i6).toNat 0 [(AV.list 1 Ap 0 ((mp l7 v14 i2 i6)++(rO i2)) (.own 60010))]) i_))),(60010,.tok 1 3 (((mp l7 v14 i2 i6)++(rO i2)).length))],[(70010,⟨1,3,AY l7 (mU v14 i2 i6).toNat⟩)]⟩:St) (gLe (Le.trans (Le.trans (o9 (r:=10) (b:=70010) (k:=60010) Ap (0:Int) l7 (mU v14 i2 i6).toNat ((mp l7 v14 i2 i6)++(rO i2)) 3 rfl (dn (Qm c10_) rfl rfl) rfl rfl rfl rfl (Qm c10_) (by kernel_rfl) (.here (.tok .nil)) (by rw[hΓ];rfl)) (Gt (st':=⟨(Q18 l7 i2 v14 i6),[(cB 10 l7.length (xR l7 v14 i2 i6) 70010)],[(70010,⟨1,3,Nm (xR l7 v14 i2 i6)⟩)]⟩) (by kernel_rfl))) (Gt (Bg (λk_:Nat=>(⟨[(3,(.vsl 10 k_)),(4,(Z5 i2)),(11,(NM v14)),(bm 12 v14.length),(13,(Z5 i2)),(18,(AV.list 1 Ap 0 (v14.getD i2.toNat []) .none)),(19,(.int .i64 ((v14.getD i2.toNat []).length:Int))),(20,(Z5 i6))],[(cB 10 k_ (xR l7 v14 i2 i6) 70010)],[(70010,⟨1,3,Nm (xR l7 v14 i2 i6)⟩)]⟩:St)) (show l7.length=(xR l7 v14 i2 i6).length from(C8 ..).symm)))) (Af q kI Vi (tN h))))))) λh=>tS h (gO (Bd (Bi TA Vi q))))) λx14 h=>gA (Af q TA Vi (tN h)))) λh=>tS h (gO (Bd (Bi [3] Vi q))))) λx16 h=>gA (Af q [2] Vi (Qc (⟨[(2,(.vsl 10 x16.length))],[(cB 10 x16.length x16 70010)],[(70010,⟨1,3,Nm x16⟩)]⟩:St) (tS h (gK (e:=.ret) (H6 [(10,20000)] (Le.trans (le_freeze (nm:=10) (sz:=1) (n:=x16.length) (e:=22) (f:=(Ow 1 Ap (0:Int) x16 (Tag.fam 70010))) (g:=(λi=>Lh (x16.getD i []))) rfl ⟨rfl,trivial⟩ (λ_ _=>rfl) (by rw[hΓ];rfl)) (Bi (st':=⟨[(2,(rD x16 10))],[(10,.tok 1 22 x16.length)],[]⟩) [2] [10] q)))))))))))
def Hy(a0:TFunc):rJ->Option (LR (Int×Lj) (Lj ⊕ (TGraph×Int))):=
 λ((i3,l4):rJ)=>(bif (decide (i3<(a0.Blocks.length:Int))) then(A0 (A1 i3 a0.Blocks.length) ((Pg (⟨(a0.Blocks.getD i3.toNat default).End.Kind,(a0.Blocks.getD i3.toNat default).End.Arg,(a0.Blocks.getD i3.toNat default).End.To⟩:Kb) (a0.Blocks.length:Int)).bind λx7=>(bif (!x7) then(some (.done (.inr ((⟨([]:Lj),([]:Lj)⟩:TGraph),(5:Int))))) else((IE ((a0.Blocks.getD i3.toNat default).End.To)).bind λx8=>(A0 (A1 i3 l4.length) (some (.next ((w64 (i3+1)),(l4.set i3.toNat x8))))))))) else(some (.done (.inl l4))))
abbrev kB:=(TGraph×Int)
def en(Γ:H5)(a0:TFunc)(r:kB):Exit->St->Prop:=fK Tryz.prog Γ Tryz.f82.results.toList [] (.tuple (sH r.1 r.2)) []
def vH:AV:=Z0
def w5:List MK:=[Uk,(3,(.int .i64 (5:Int)))]
def Q29(a0:TFunc)(i3:Int):=(a0.Blocks.getD i3.toNat default)
def Q27:AV:=z6
def Q28(a0:TFunc):=(List.replicate (a0.Blocks.length:Int).toNat ([]:Ar))
def uW:List AV:=[xD,xD]
def Tw(a0:TFunc):Option kB:=
 ((Ml (a0.Blocks.length:Int)).bind λx1=>(bif (!x1) then(some ((⟨([]:Lj),([]:Lj)⟩:TGraph),(5:Int))) else(A0 (0<=(a0.Blocks.length:Int)/\(a0.Blocks.length:Int)<=(a0.Blocks.length:Int)/\(a0.Blocks.length:Int)<=(room:Int)) ((Ac (Hy a0) ((0:Int),(List.replicate (a0.Blocks.length:Int).toNat ([]:Ar)))).bind (λx10=>(match x10 with|(.inl l5)=>((Ns l5).bind λx12=>(some ((⟨l5,x12⟩:TGraph),(0:Int))))|(.inr r13)=>(some r13)))))))
variable{v16:kB}
theorem LQ(h:Tw v0=some v16):sP 82 [(W9 v0)] [] (.tuple (sH v16.1 v16.2)) []:=
 sG Tryz.func82 λΓ q=>have hΓ:=q.own;tW q Ee Ee [1,2,4] Ee (tB h λx1 y1 h=>tT q [1,2,4,13] Ee [(Z2 x1)] (c1 (Wm y1)) (gC h (λh=>gR q E0 [2] [(14,(.agg uW))] [] (c1 (show(AVle (.agg [vH,vH]) (.agg uW)) from(AVle.agg (.cons El (.cons El .nil))))) (Qc (⟨w5,[(Pu 56 uW)],[]⟩:St) (tS h (gK (e:=.ret) (H6 [] (show Le Γ _ (⟨w5,[(mX Q27)],[]⟩:St) from Le.trans (Bi (st':=⟨w5,[(Pu 56 uW)],[]⟩) E0 [2] q) (I8 (.cons (AVle.refl _) (.cons (AVle.refl _) .nil)) (.row (.cons AVle.untag (.cons AVle.untag .nil)) .nil)))))))) λh=>tV q [1,2,4,5] [1,2,16] h λh=>by exact gLe (Le.trans (Sr 16 (show ∀ k_,k_<((v0.Blocks.length:Int).toNat)->AVleL ((λi_=>AV.eraseAll (λn_=>Bw n_ [1,2,16]) ((λ_=>[vH]) i_)) k_) ((λi=>Lh ((Q28 v0).getD i [])) k_) from(λk hk=>M7 (e:=Lh) (d:=[]) (.cons (λ_ _ _ _ _ hh=>AVle.untag _ _ _ _ _ (El _ _ _ _ _ hh)) .nil) _ k (M8 hk)))) (Sa (λ(k_:Nat) u=>(Cl u [(Vk 16 k_)] [(16,.arr 1 22 k_ (λi=>Lh ((Q28 v0).getD i [])))])) (show(v0.Blocks.length:Int).toNat=(Q28 v0).length from(N9 ..).symm))) (Af q bT V5 (tL q h bT V5 (λu (i3,l4)=>(Cl u [(Vk 16 l4.length),(20,(Z5 i3))] [(16,.arr 1 22 l4.length (λi=>Lh (l4.getD i [])))])) (λu x_=>match x_ with|(.inl l5)=>aG Γ (.exit 0) (Ni V6 V5 u [(Vk 16 l5.length)] [(16,.arr 1 22 l5.length (λi=>Lh (l5.getD i [])))])|(.inr r_)=>aR (en Γ v0 r_)) (λ⟨i3,l4⟩ y h=>Af q [2,4,5,18,19,20,21] V5 (gC h (λh=>tV q [2,4,5,6,7,18,19,20] [2,7,16] h λh=>tB h λx7 y7 h=>tT q [2,4,5,6,7,18,19,20,29] [2,7,16] [(Z2 x7)] (c1 (JS y7)) (gC h (λh=>gR q E0 [2] [(30,(.agg uW))] [] (c1 (show(AVle (.agg [vH,vH]) (.agg uW)) from(AVle.agg (.cons El (.cons El .nil))))) (Qc (⟨w5,[(Pu 56 uW)],[]⟩:St) (tS h (gO (Lm (H6 [] (show Le Γ _ (⟨w5,[(mX Q27)],[]⟩:St) from Le.trans (Bi (st':=⟨w5,[(Pu 56 uW)],[]⟩) E0 [2] q) (I8 (.cons (AVle.refl _) (.cons (AVle.refl _) .nil)) (.row (.cons AVle.untag (.cons AVle.untag .nil)) .nil))))))))) λh=>tB h λx8 y8 h=>tC h λc9_ h=>tT q bT V5 [⟨[],[],(Z6 x8),[],[],[]⟩] (c3 (h9 ((Q29 v0 i3).End.To) x8 y8) c9_ (Eq.refl l4.length)) (gLe (Le.trans (Sr 16 (show ∀ k_,k_<l4.length->AVleL ((λi_=>AV.eraseAll (λn_=>Bw n_ V5) ((Fc (λi=>Lh (l4.getD i [])) i3.toNat 0 [(Z6 x8)]) i_)) k_) ((λi=>Lh ((l4.set i3.toNat x8).getD i [])) k_) from(Bh (C8 ..).symm (λk_ hk_=>(Bg (AV.eraseAll (λn_=>Bw n_ V5)) ((Fu (λ_ _=>rfl) (Hv c9_) rfl) k_ hk_)).trans rfl)))) (Sa (λ(k_:Nat) u=>(Cl u [(Vk 16 k_)] [(16,.arr 1 22 k_ (λi=>Lh ((l4.set i3.toNat x8).getD i [])))])) (show l4.length=(l4.set i3.toNat x8).length from(C8 ..).symm))) (Af q bT V5 (tN h))))) λh=>tS h (gO (Bd (Bi V6 V5 q))))) λx10 h=>(match x10,h with | .inl l5,h=>gA (Qc (⟨[Uk,(Vk 16 l5.length)],[(mX vH),(16,.arr 1 22 l5.length (λi=>Lh (l5.getD i [])))],[]⟩:St) (gLe (Le.trans (le_freeze (nm:=16) (sz:=1) (n:=l5.length) (e:=22) (f:=(λi=>Lh (l5.getD i []))) (g:=(λi=>Lh (l5.getD i []))) rfl ⟨rfl,trivial⟩ (λ_ _=>rfl) (by rw[hΓ];rfl)) (Gt (st':=⟨[Uk,(5,(rD l5 16))],[(mX vH),(16,.tok 1 22 l5.length)],[]⟩) (by kernel_rfl))) (tB h λx12 y12 h=>tT q E0 [2,16,41] [⟨[],[(20000,41)],(rD x12 20000),[(20000,.tok 1 22 x12.length)],[],[]⟩] (c1 (Y1 y12)) (tS h (Cc []))))) | .inr r13,h=>O3 (λst' hk=>tS h (gK hk)))))))
def Hr(a6:Lj)(i2:Int):Gq->Option (LR (Int×Int) (Unit ⊕ Bool)):=
 λ((i4,i5):Gq)=>(bif (decide (i5<((a6.getD i2.toNat []).length:Int))) then(A0 (A1 i5 (a6.getD i2.toNat []).length) ((bif ((decide (((a6.getD i2.toNat []).getD i5.toNat 0)<=i4))==false) then Ka ((a6.getD i2.toNat []).getD i5.toNat 0) (a6.length:Int) else some false).bind λx7=>(bif (bif (decide (((a6.getD i2.toNat []).getD i5.toNat 0)<=i4)) then true else(!x7)) then(some (.done (.inr false))) else(some (.next (((a6.getD i2.toNat []).getD i5.toNat 0),(w64 (i5+1)))))))) else(some (.done (.inl ()))))
def Dw(a6:Lj):Int->Option (LR Int (Unit ⊕ Bool)):=
 λ(i2:Int)=>(bif (decide (i2<(a6.length:Int))) then(A0 (A1 i2 a6.length) ((Ac (Hr a6 i2) ((-1:Int),(0:Int))).bind (λx8=>(match x8 with|(.inl _)=>(some (.next (w64 (i2+1))))|(.inr r10)=>(some (.done (.inr r10))))))) else(some (.done (.inl ()))))
def Yr(Γ:H5)(a6:Lj)(r:Bool):Exit->St->Prop:=fK Tryz.prog Γ Tryz.f238.results.toList [] (.bool r) []
def zi(a6:Lj)(i2:Int)(i5:Int)(i4:Int):=(decide (((a6.getD i2.toNat []).getD i5.toNat 0)<=i4))
def Ph(a6:Lj):Option Bool:=
 ((Ml (a6.length:Int)).bind λx1=>(bif (!x1) then(some false) else((Ac (Dw a6) (0:Int)).bind (λx11=>(match x11 with|(.inl _)=>(some true)|(.inr r13)=>(some r13))))))
theorem JT(h:Ph v14=some v3):sP 238 [(NM v14)] [] (.bool v3) []:=
 sG Tryz.func238 λΓ q=>Af q [0] [] (tB h λx1 y1 h=>tT q [0,11] [] [(Z2 x1)] (c1 (Wm y1)) (gC h (λh=>Af q [2] [] (tS h (Cc []))) λh=>Af q TB [] (tL q h TB [] (λu i2=>(Cl u [(14,(Z5 i2))] [])) (λu x_=>match x_ with|(.inl _)=>aG Γ (.exit 0) (⟨[],[],[]⟩:St)|(.inr r_)=>aR (Yr Γ v14 r_)) (λi2 y h=>Af q [0,12,13,14,15] [] (gC h (λh=>tV q [0,4,12,13,14] [] h λh=>tW q [0,4,5,12,13,14] [] kJ [] (tL q h kJ [] (λu (i4,i5)=>(Cl u [(5,(Z5 i4)),(20,(Z5 i5))] [])) (λu x_=>match x_ with|(.inl _)=>aG Γ (.exit 2) (Ni TB [] u [] [])|(.inr r_)=>aR (Yr Γ v14 r_)) (λ⟨i4,i5⟩ y h=>Af q [0,5,12,13,14,18,19,20,21] [] (gC h (λh=>tV q [0,5,7,12,13,14,18,19,20] [] h λh=>tB h λx7 y7 h=>tT q [0,7,12,13,14,18,19,20,33] [] [(Z2 x7)] (Vm ((zi v14 i2 i5 i4)==false) (c3 (λ(hg:((zi v14 i2 i5 i4)==false)=true)=>(Rs (Bq hg y7))) (gI ((zi v14 i2 i5 i4)==false)) (Ng (zi v14 i2 i5 i4)))) (gC h (λh=>Af q [2] [] (tS h (gO (Lm (H6 [] (Le.refl _ _)))))) λh=>tW q kJ [] kJ [] (tN h))) λh=>tS h (gO (Bd (Bi TB [] q))))) λx8 h=>(match x8,h with | .inl _,h=>gA (Af q TB [] (tN h)) | .inr r10,h=>O3 (λst' hk=>tS h (gO (Lm hk)))))) λh=>tS h (gO (Bd (Bi [] [] q))))) λx11 h=>(match x11,h with | .inl _,h=>gA (Af q [2] [] (tS h (Cc []))) | .inr r13,h=>O3 (λst' hk=>tS h (gK hk))))))
def E7(aY:Ar)(aa0:Ar):Int->Option (LR Int (Unit ⊕ Bool)):=
 λ(i1:Int)=>(bif (decide (i1<(aY.length:Int))) then(A0 (A1 i1 aY.length) (A0 (A1 i1 aa0.length) (bif ((aY.getD i1.toNat 0)!=(aa0.getD i1.toNat 0)) then(some (.done (.inr false))) else(some (.next (w64 (i1+1))))))) else(some (.done (.inl ()))))
def Xb(Γ:H5)(aY:Ar)(aa0:Ar)(r:Bool):Exit->St->Prop:=fK Tryz.prog Γ Tryz.f185.results.toList [] (.bool r) []
def G2(aY:Ar)(aa0:Ar):Option Bool:=
 (bif ((aY.length:Int)!=(aa0.length:Int)) then(some false) else((Ac (E7 aY aa0) (0:Int)).bind (λx4=>(match x4 with|(.inl _)=>(some true)|(.inr r6)=>(some r6)))))
variable{v17:Ar}
theorem Pz(h:G2 v2 v17=some v3):sP 185 [(Z6 v2),(Z6 v17)] [] (.bool v3) []:=
 sG Tryz.func185 λΓ q=>tW q Gn [] Yo [] (gC h (λh=>Af q [4] [] (tS h (Cc []))) λh=>Af q ia [] (tL q h ia [] (λu i1=>(Cl u [(13,(Z5 i1))] [])) (λu x_=>match x_ with|(.inl _)=>aG Γ (.exit 0) (⟨[],[],[]⟩:St)|(.inr r_)=>aR (Xb Γ v2 v17 r_)) (λi1 y h=>Af q [0,1,12,13,14] [] (gC h (λh=>Af q [0,1,5,12,13] [] (tC h λc2_ h=>tC h λc3_ h=>tU q [0,1,12,13,24] [] (c2 c2_ c3_) (gC h (λh=>Af q [4] [] (tS h (gO (Lm (H6 [] (Le.refl _ _)))))) λh=>Af q ia [] (tN h)))) λh=>tS h (gO (Bd (Bi [] [] q))))) λx4 h=>(match x4,h with | .inl _,h=>gA (Af q [4] [] (tS h (Cc []))) | .inr r6,h=>O3 (λst' hk=>tS h (gK hk)))))
def B5(aY:Lj)(aa0:Lj):Int->Option (LR Int (Unit ⊕ Bool)):=
 λ(i1:Int)=>(bif (decide (i1<(aY.length:Int))) then(A0 (A1 i1 aY.length) (A0 (A1 i1 aa0.length) ((G2 (aY.getD i1.toNat []) (aa0.getD i1.toNat [])).bind λx4=>(bif (!x4) then(some (.done (.inr false))) else(some (.next (w64 (i1+1)))))))) else(some (.done (.inl ()))))
def Pk(Γ:H5)(aY:Lj)(aa0:Lj)(r:Bool):Exit->St->Prop:=fK Tryz.prog Γ Tryz.f239.results.toList [] (.bool r) []
def Dx(aY:Lj)(aa0:Lj):Option Bool:=
 (bif ((aY.length:Int)!=(aa0.length:Int)) then(some false) else((Ac (B5 aY aa0) (0:Int)).bind (λx5=>(match x5 with|(.inl _)=>(some true)|(.inr r7)=>(some r7)))))
theorem O6(h:Dx v14 v15=some v3):sP 239 [(NM v14),(NM v15),(.clo 185 [] [])] [] (.bool v3) []:=
 sG Tryz.func239 λΓ q=>tW q TU [] [0,1,2,14] [] (gC h (λh=>Af q [6] [] (tS h (Cc []))) λh=>Af q iK [] (tL q h iK [] (λu i1=>(Cl u [(17,(Z5 i1))] [])) (λu x_=>match x_ with|(.inl _)=>aG Γ (.exit 0) (⟨[],[],[]⟩:St)|(.inr r_)=>aR (Pk Γ v14 v15 r_)) (λi1 y h=>Af q [1,2,15,16,17,18] [] (gC h (λh=>tV q [1,2,7,8,15,16,17] [] h λh=>tV q [1,2,8,9,15,16,17] [] h λh=>tB h λx4 y4 h=>tT q [1,2,15,16,17,30] [] [(Z2 x4)] (c1 (Pz y4)) (gC h (λh=>Af q [6] [] (tS h (gO (Lm (H6 [] (Le.refl _ _)))))) λh=>Af q iK [] (tN h))) λh=>tS h (gO (Bd (Bi [] [] q))))) λx5 h=>(match x5,h with | .inl _,h=>gA (Af q [6] [] (tS h (Cc []))) | .inr r7,h=>O3 (λst' hk=>tS h (gK hk)))))
def Ux(a4:TGraph):Option Bool:=
 ((Ph a4.Succ).bind λx1=>((bif (x1==true) then Ns a4.Succ else some []).bind λx2=>((bif (x1==true) then Dx a4.Pred x2 else some false).bind λx3=>(some (bif x1 then x3 else false)))))
variable{v18:TGraph}
theorem aq(h:Ux v18=some v3):sP 195 [(.agg (Us v18))] [] (.bool v3) []:=
 sG Tryz.func195 λΓ q=>Af q [1] [1] (tB h λx1 y1 h=>tB h λx2 y2 h=>tB h λx3 y3 h=>tT q [2] [] [(Z2 x1),⟨[],[],(NM x2),[],[],[]⟩,(Z2 x3)] (ci (JT y1) (Vm (x1==true) (ci (show((x1==true)=true->(sP 138 [(NM v18.Succ)] [] (NM x2) [])) from(λhg=>(Spec.drop (Y1 (Bq hg y2))))) (M4 (x1==true) (c2 (λ(hg:(x1==true)=true)=>(O6 (Bq hg y3))) (Nh x1)))))) (tS h (Cc [])))
abbrev yT8:=(Int×Int×Ar)
def Bj :yT8->Option (LR (Int×Int×Ar) Ar):=
 λ((i1,i2,l3):yT8)=>(bif (decide (i1<i2)) then(A0 (A1 i2 l3.length) (A0 (A1 i1 l3.length) (A0 (A1 i1 l3.length) (A0 (A1 i2 l3.length) (some (.next ((w64 (i1+1)),(w64 (i2-1)),((l3.set i1.toNat (l3.getD i2.toNat 0)).set i2.toNat (l3.getD i1.toNat 0))))))))) else(some (.done l3)))
def Q31(l3:Ar)(i1:Int)(i2:Int):=((l3.set i1.toNat (l3.getD i2.toNat 0)).set i2.toNat (l3.getD i1.toNat 0))
def Ft(aH:Ar):Option Ar:=
 ((Ac (S:=yT8) (X:=Ar) Bj ((0:Int),(w64 ((aH.length:Int)-1)),aH)).bind (λx9=>(some x9)))
theorem On(h:Ft v2=some v17):sP 196 [(.vsl 34000 v2.length)] [(Z4 34000 v2)] (.tuple []) [(Z4 34000 v17)]:=
 sG Tryz.func196 λΓ q=>Af q [0,2,3] [34000] (tL q h [0,2,3] [34000] (λu (i1,i2,l3)=>(Cl u [(mY l3.length),(2,(Z5 i1)),(3,(Z5 i2))] [(Z4 34000 l3)])) (λu l4=>aG Γ (.exit 0) (⟨[],[(Z4 34000 l4)],[]⟩:St)) (λ⟨i1,i2,l3⟩ y h=>Af q [0,2,3,9] [34000] (gC h (λh=>tC h λc5_ h=>tC h λc6_ h=>tC h λc7_ h=>tC h λc8_ h=>tU q [0,2,3] [34000] (c8 c5_ (Eq.refl l3.length) c6_ (Eq.refl l3.length) c7_ (Eq.refl l3.length) c8_ (Eq.refl l3.length)) (gLe (Le.trans (Sr 34000 (show ∀ k_,k_<l3.length->AVleL ((λi_=>AV.eraseAll (λn_=>Bw n_ [34000]) ((Fc (Fc (λi=>Ap (l3.getD i 0)) i1.toNat 0 [(.int .i64 (l3.getD i2.toNat 0))]) i2.toNat 0 [(.int .i64 (l3.getD i1.toNat 0))]) i_)) k_) ((λi=>Ap ((Q31 l3 i1 i2).getD i 0)) k_) from(Bh (Eq.trans (C8 ..).symm (C8 ..).symm) (λk_ hk_=>(Bg (AV.eraseAll (λn_=>Bw n_ [34000])) ((Fu (Fu (λ_ _=>rfl) (Hv c7_) rfl) (su c8_) rfl) k_ hk_)).trans rfl)))) (Sa (λ(k_:Nat) u=>(Cl u [(mY k_)] [(34000,.arr 1 3 k_ (λi=>Ap ((Q31 l3 i1 i2).getD i 0)))])) (show l3.length=(Q31 l3 i1 i2).length from(Eq.trans (C8 ..).symm (C8 ..).symm)))) (Af q [0,2,3] [34000] (tN h)))) λh=>tS h (gO (Bd (Bi [] [34000] q))))) λx9 h=>um (λst' hl10=>tS h (gK (e:=.normal) (H6 SZ hl10))))
abbrev yT9:=(LR Ar (Ar ⊕ (List Bool×Ar×Ar)))
def JH(a4:TGraph)(a2:Int):Ar->Option yT9:=
 λ(l9:Ar)=>(A0 (A1 ([a2].getD (w64 (([a2].length:Int)-1)).toNat (0:Int)) 64) (A0 (A1 ([a2].getD (w64 (([a2].length:Int)-1)).toNat (0:Int)) a4.Succ.length) (bif (decide ((l9.getD ([a2].getD (w64 (([a2].length:Int)-1)).toNat (0:Int)).toNat (0:Int))<((a4.Succ.getD ([a2].getD (w64 (([a2].length:Int)-1)).toNat (0:Int)).toNat []).length:Int))) then(A0 (A1 ([a2].getD (w64 (([a2].length:Int)-1)).toNat (0:Int)) a4.Succ.length) (A0 (A1 ([a2].getD (w64 (([a2].length:Int)-1)).toNat (0:Int)) 64) (A0 (A1 (l9.getD ([a2].getD (w64 (([a2].length:Int)-1)).toNat (0:Int)).toNat (0:Int)) (a4.Succ.getD ([a2].getD (w64 (([a2].length:Int)-1)).toNat (0:Int)).toNat []).length) (A0 (A1 ([a2].getD (w64 (([a2].length:Int)-1)).toNat (0:Int)) 64) (A0 (A1 ([a2].getD (w64 (([a2].length:Int)-1)).toNat (0:Int)) 64) (A0 (A1 ((a4.Succ.getD ([a2].getD (w64 (([a2].length:Int)-1)).toNat (0:Int)).toNat []).getD (l9.getD ([a2].getD (w64 (([a2].length:Int)-1)).toNat (0:Int)).toNat (0:Int)).toNat (0:Int)) 64) (bif (!((Qa 64 false (List.replicate 64 false) a2.toNat true).getD ((a4.Succ.getD ([a2].getD (w64 (([a2].length:Int)-1)).toNat (0:Int)).toNat []).getD (l9.getD ([a2].getD (w64 (([a2].length:Int)-1)).toNat (0:Int)).toNat (0:Int)).toNat (0:Int)).toNat false)) then(A0 (A1 ((a4.Succ.getD ([a2].getD (w64 (([a2].length:Int)-1)).toNat (0:Int)).toNat []).getD (l9.getD ([a2].getD (w64 (([a2].length:Int)-1)).toNat (0:Int)).toNat (0:Int)).toNat (0:Int)) 64) (A0 ([a2].length+([((a4.Succ.getD ([a2].getD (w64 (([a2].length:Int)-1)).toNat (0:Int)).toNat []).getD (l9.getD ([a2].getD (w64 (([a2].length:Int)-1)).toNat (0:Int)).toNat (0:Int)).toNat (0:Int))]:Ar).length<=room) (some (.done (.inr ((Qa 64 false (Qa 64 false (List.replicate 64 false) a2.toNat true) ((a4.Succ.getD ([a2].getD (w64 (([a2].length:Int)-1)).toNat (0:Int)).toNat []).getD (l9.getD ([a2].getD (w64 (([a2].length:Int)-1)).toNat (0:Int)).toNat (0:Int)).toNat (0:Int)).toNat true),(Qa 64 (0:Int) l9 ([a2].getD (w64 (([a2].length:Int)-1)).toNat (0:Int)).toNat (w64 ((l9.getD ([a2].getD (w64 (([a2].length:Int)-1)).toNat (0:Int)).toNat (0:Int))+1))),([a2]++([((a4.Succ.getD ([a2].getD (w64 (([a2].length:Int)-1)).toNat (0:Int)).toNat []).getD (l9.getD ([a2].getD (w64 (([a2].length:Int)-1)).toNat (0:Int)).toNat (0:Int)).toNat (0:Int))]:Ar)))))))) else(some (.next (Qa 64 (0:Int) l9 ([a2].getD (w64 (([a2].length:Int)-1)).toNat (0:Int)).toNat (w64 ((l9.getD ([a2].getD (w64 (([a2].length:Int)-1)).toNat (0:Int)).toNat (0:Int))+1)))))))))))) else(some (.done (.inl l9))))))
def Je(a4:TGraph)(l1:List Bool)(l3:Ar):Ar->Option yT9:=
 λ(l32:Ar)=>(A0 (A1 (l3.getD (w64 ((l3.length:Int)-1)).toNat (0:Int)) 64) (A0 (A1 (l3.getD (w64 ((l3.length:Int)-1)).toNat (0:Int)) a4.Succ.length) (bif (decide ((l32.getD (l3.getD (w64 ((l3.length:Int)-1)).toNat (0:Int)).toNat (0:Int))<((a4.Succ.getD (l3.getD (w64 ((l3.length:Int)-1)).toNat (0:Int)).toNat []).length:Int))) then(A0 (A1 (l3.getD (w64 ((l3.length:Int)-1)).toNat (0:Int)) a4.Succ.length) (A0 (A1 (l3.getD (w64 ((l3.length:Int)-1)).toNat (0:Int)) 64) (A0 (A1 (l32.getD (l3.getD (w64 ((l3.length:Int)-1)).toNat (0:Int)).toNat (0:Int)) (a4.Succ.getD (l3.getD (w64 ((l3.length:Int)-1)).toNat (0:Int)).toNat []).length) (A0 (A1 (l3.getD (w64 ((l3.length:Int)-1)).toNat (0:Int)) 64) (A0 (A1 (l3.getD (w64 ((l3.length:Int)-1)).toNat (0:Int)) 64) (A0 (A1 ((a4.Succ.getD (l3.getD (w64 ((l3.length:Int)-1)).toNat (0:Int)).toNat []).getD (l32.getD (l3.getD (w64 ((l3.length:Int)-1)).toNat (0:Int)).toNat (0:Int)).toNat (0:Int)) 64) (bif (!(l1.getD ((a4.Succ.getD (l3.getD (w64 ((l3.length:Int)-1)).toNat (0:Int)).toNat []).getD (l32.getD (l3.getD (w64 ((l3.length:Int)-1)).toNat (0:Int)).toNat (0:Int)).toNat (0:Int)).toNat false)) then(A0 (A1 ((a4.Succ.getD (l3.getD (w64 ((l3.length:Int)-1)).toNat (0:Int)).toNat []).getD (l32.getD (l3.getD (w64 ((l3.length:Int)-1)).toNat (0:Int)).toNat (0:Int)).toNat (0:Int)) 64) (A0 (l3.length+([((a4.Succ.getD (l3.getD (w64 ((l3.length:Int)-1)).toNat (0:Int)).toNat []).getD (l32.getD (l3.getD (w64 ((l3.length:Int)-1)).toNat (0:Int)).toNat (0:Int)).toNat (0:Int))]:Ar).length<=room) (some (.done (.inr ((Qa 64 false l1 ((a4.Succ.getD (l3.getD (w64 ((l3.length:Int)-1)).toNat (0:Int)).toNat []).getD (l32.getD (l3.getD (w64 ((l3.length:Int)-1)).toNat (0:Int)).toNat (0:Int)).toNat (0:Int)).toNat true),(Qa 64 (0:Int) l32 (l3.getD (w64 ((l3.length:Int)-1)).toNat (0:Int)).toNat (w64 ((l32.getD (l3.getD (w64 ((l3.length:Int)-1)).toNat (0:Int)).toNat (0:Int))+1))),(l3++([((a4.Succ.getD (l3.getD (w64 ((l3.length:Int)-1)).toNat (0:Int)).toNat []).getD (l32.getD (l3.getD (w64 ((l3.length:Int)-1)).toNat (0:Int)).toNat (0:Int)).toNat (0:Int))]:Ar)))))))) else(some (.next (Qa 64 (0:Int) l32 (l3.getD (w64 ((l3.length:Int)-1)).toNat (0:Int)).toNat (w64 ((l32.getD (l3.getD (w64 ((l3.length:Int)-1)).toNat (0:Int)).toNat (0:Int))+1)))))))))))) else(some (.done (.inl l32))))))
abbrev qV:=(List Bool×Ar×Ar×Ar)
def E4(a4:TGraph):qV->Option (LR (List Bool×Ar×Ar×Ar) Ar):=
 λ(s_:qV)=>match s_ with|(l1,l2,l3,l4)=>(A0 (A1 (w64 ((l3.length:Int)-1)) l3.length) ((Ac (Je a4 l1 l3) l2).bind (λx47=>(match x47 with|(.inl l33)=>(A0 (l4.length+([(l3.getD (w64 ((l3.length:Int)-1)).toNat (0:Int))]:Ar).length<=room) (A0 (0<=(w64 ((l3.length:Int)-1))/\0+(w64 ((l3.length:Int)-1)).toNat<=l3.length) (bif (decide ((0:Int)<((l3.take (w64 ((l3.length:Int)-1)).toNat).length:Int))) then(some (.next (l1,l33,(l3.take (w64 ((l3.length:Int)-1)).toNat),(l4++([(l3.getD (w64 ((l3.length:Int)-1)).toNat (0:Int))]:Ar))))) else((Ft (l4++([(l3.getD (w64 ((l3.length:Int)-1)).toNat (0:Int))]:Ar))).bind λx51=>(A0 ((l4++([(l3.getD (w64 ((l3.length:Int)-1)).toNat (0:Int))]:Ar)).length=x51.length) (some (.done x51)))))))|(.inr (l34,l35,l36))=>(some (.next (l34,l35,l36,l4)))))))
def UJ(Γ:H5)(a4:TGraph)(a2:Int)(r:Ar):Exit->St->Prop:=fK Tryz.prog Γ Tryz.f151.results.toList [] (V8 r 20000) [(Yt 20000 r.length)]
def w8(l1:List Bool):=(λi=>eB (l1.getD i false))
def mV(l3:Ar):=(l3.getD (w64 ((l3.length:Int)-1)).toNat (0:Int))
def nJ(l4:Ar)(l3:Ar):=(l4++([(mV l3)]:Ar))
def xw(l10:Ar):=(λi=>Ap (l10.getD i 0))
def yE(l33:Ar):=(λi=>Ap (l33.getD i 0))
def eX:=(λn_=>Bw n_ [2,5,6,25,36007])
def vQ(a2:Int):=(λi=>Ap ([a2].getD i 0))
def ii(a2:Int):=([a2].getD (w64 (([a2].length:Int)-1)).toNat (0:Int))
def rB(a2:Int):=(([]:Ar)++([(ii a2)]:Ar))
def xA(a2:Int):=(λi=>Ap ((rB a2).getD i 0))
def w9(l4:Ar)(l3:Ar):=(λi=>Ap ((nJ l4 l3).getD i 0))
def w7:AV:=fG
def zj:=(λi=>Ap (([]:Ar).getD i 0))
def vO(l3:Ar):=(0+(w64 ((l3.length:Int)-1)).toNat)
def w6(a2:Int):=(0+(w64 (([a2].length:Int)-1)).toNat)
def Q52(a2:Int):=([a2].take (w64 (([a2].length:Int)-1)).toNat)
def Q41:=(λi=>Ap ((List.replicate 64 (0:Int)).getD i 0))
def m9(a4:TGraph):List AV:=[(NM a4.Succ),(NM a4.Pred)]
def uX(a2:Int):=(λi=>eB ((Qa 64 false (List.replicate 64 false) a2.toNat true).getD i false))
def rA(a4:TGraph)(l3:Ar)(l32:Ar):=((a4.Succ.getD (mV l3).toNat []).getD (l32.getD (mV l3).toNat (0:Int)).toNat (0:Int))
def q9(a4:TGraph)(a2:Int)(l9:Ar):=((a4.Succ.getD (ii a2).toNat []).getD (l9.getD (ii a2).toNat (0:Int)).toNat (0:Int))
def Q51:=(Z33:St)
def Q55(a2:Int):List MK:=[Uk,nS,nR,(7,(.vsl 36007 (rB a2).length)),(8,(.vsl 25 (w6 a2)))]
def Q48(a2:Int)(a4:TGraph):=(⟨[Uk,nS,nR,(7,(.vsl 36007 ([]:Ar).length)),(8,(.vsl 25 [a2].length)),(9,(Z5 (ii a2)))],[(Pu 56 (m9 a4)),(OQ (uX a2)),(mZ Q41),(25,.arr 1 3 ([a2].length) (vQ a2)),(36007,.arr 1 3 (([]:Ar).length) zj)],[]⟩:St)
def Lb(a4:TGraph)(a2:Int):Option Ar:=
 ((Rx (S:=qV) (X:=Ar) ((Ux a4).bind λx5=>((bif ((!x5)==false) then Ka a2 (a4.Succ.length:Int) else some false).bind λx6=>(bif (bif (!x5) then true else(!x6)) then(some (.done ([]:Ar))) else(A0 (A1 a2 64) (A0 (A1 (w64 (([a2].length:Int)-1)) [a2].length) ((Ac (JH a4 a2) (List.replicate 64 (0:Int))).bind (λx24=>(match x24 with|(.inl l10)=>(A0 (([]:Ar).length+([([a2].getD (w64 (([a2].length:Int)-1)).toNat (0:Int))]:Ar).length<=room) (A0 (0<=(w64 (([a2].length:Int)-1))/\0+(w64 (([a2].length:Int)-1)).toNat<=[a2].length) (bif (decide ((0:Int)<(([a2].take (w64 (([a2].length:Int)-1)).toNat).length:Int))) then(some (.next ((Qa 64 false (List.replicate 64 false) a2.toNat true),l10,([a2].take (w64 (([a2].length:Int)-1)).toNat),(([]:Ar)++([([a2].getD (w64 (([a2].length:Int)-1)).toNat (0:Int))]:Ar))))) else((Ft (([]:Ar)++([([a2].getD (w64 (([a2].length:Int)-1)).toNat (0:Int))]:Ar))).bind λx28=>(A0 ((([]:Ar)++([([a2].getD (w64 (([a2].length:Int)-1)).toNat (0:Int))]:Ar)).length=x28.length) (some (.done x28)))))))|(.inr (l11,l12,l13))=>(some (.next (l11,l12,l13,([]:Ar)))))))))))) (E4 a4)).bind (λx54=>(some x54)))
theorem BG(h:Lb v18 v1=some v2):sP 151 (sH v18 v1) [] (V8 v2 20000) [(Yt 20000 v2.length)]:=
 sG Tryz.func151 λΓ q=>have hΓ:=q.own;gR q Ee [2] [(4,w7)] [] (c1 (B0 1 Ap (0:Int))) (tB h λx54 y54 h=>gS y54 (λ(s_:qV)=>match s_ with|(l1,l2,l3,l4)=>0) (λ(s_:qV)=>match s_ with|(l1,l2,l3,l4)=>(⟨[Uk,nS,nR,(Vl 36007 l4.length),(8,(.vsl 25 l3.length))],[(Pu 56 (m9 v18)),(OQ (w8 l1)),(yR l2),(Z4 25 l3),(Z4 36007 l4)],[]⟩:St)) (λr_=>aR (UJ Γ v18 v1 r_)) (λy h=>tB h λx5 y5 h=>tB h λx6 y6 h=>tT q [1,2,21] [2] [(Z2 x5),(Z2 x6)] (ci (aq y5) (ZR ((!x5)==false) (c3 (λ(hg:((!x5)==false)=true)=>(Rs (Bq hg y6))) (gI ((!x5)==false)) (Ng (!x5))))) (gC h (λh=>gR q [4] [] [(4,w7)] [] (c1 (B0 1 Ap (0:Int))) (Qc (⟨[(4,w7)],[],[]⟩:St) (tS h (ee (Lm (H6 bW (show Le Γ _ Q51 from Le.trans (Bi (st':=⟨[(4,w7)],[],[]⟩) [4] [] q) (Le.trans (Rm (t:=4) (nm:=6004) (sz':=1) zj 3 rfl rfl (.inl ⟨rfl,rfl⟩) (λh_=>absurd h_ (by decide))) (Bi (st':=Q51) [4] [6004] q))))))))) λh=>gR q V4 V6 [nS] [] trivial (gLe (Sr 5 (show ∀ k_,k_<64->AVleL ((λi_=>AV.eraseAll (λn_=>Bw n_ V6) ((λi=>(((List.replicate 64 [(.bool false)]).flatten).drop (i*1)).take 1) i_)) k_) ((λi=>eB ((List.replicate 64 false).getD i false)) k_) from(VY (e:=eB) (d:=false) (z:=[(.bool false)]) rfl rfl rfl))) (gR q [1,2,5,6] W7 [nR] [] trivial (gLe (Sr 6 (show ∀ k_,k_<64->AVleL ((λi_=>AV.eraseAll (λn_=>Bw n_ W7) ((λi=>(((List.replicate 64 [L9]).flatten).drop (i*1)).take 1) i_)) k_) (Q41 k_) from(VY (e:=Ap) (d:=(0:Int)) (z:=[L9]) rfl rfl rfl))) (gR q iS W7 [(7,w7)] [] (c1 (B0 1 Ap (0:Int))) (tC h λc7_ h=>tU q iS W7 (c2 c7_ (Eq.refl 64)) (gLe (Sr 5 (show ∀ k_,k_<64->AVleL ((λi_=>AV.eraseAll (λn_=>Bw n_ W7) ((Fc (λi=>eB ((List.replicate 64 false).getD i false)) v1.toNat 0 [(.bool true)]) i_)) k_) ((uX v1) k_) from(Bh rfl (λk_ hk_=>(Bg (AV.eraseAll (λn_=>Bw n_ W7)) ((Wp (λ_ _=>rfl) (Qm c7_) rfl) k_ hk_)).trans rfl)))) (gR q CS bb [(25,(.vsl 25 1))] [] trivial (gLe (Le.trans (Sr 25 (show ∀ k_,k_<1->AVleL ((λi_=>AV.eraseAll (λn_=>Bw n_ bb) ((λi_=>([(Z5 v1)].drop (i_*1)).take 1) i_)) k_) ((vQ v1) k_) from(Bh rfl (bH (n:=0) gh rfl)))) (Sa (λ(k_:Nat) u=>(Cl u [(8,(.vsl 25 k_))] [(25,.arr 1 3 k_ (vQ v1))])) (show 1=[v1].length from rfl))) (tC h λc8_ h=>tU q FB bb (c2 c8_ (Eq.refl ([v1].length))) (gLe (st':=(Q48 v1 v18)) (Le.trans (Bi (st':=⟨[Uk,nS,nR,(7,w7),(8,(.vsl 25 [v1].length)),(9,(Z5 (ii v1)))],[(Pu 56 (m9 v18)),(OQ (uX v1)),(mZ Q41),(25,.arr 1 3 ([v1].length) (vQ v1))],[]⟩) FB bb q) (Le.trans (PZ (t:=7) (nm:=36007) (sz':=1) zj 3 rfl rfl) (Bi (st':=(Q48 v1 v18)) FB Qb q))) (tL q h FB Qb (λu l9=>(Cl u [] [(yR l9)])) (λu x_=>match x_ with|(.inl l10)=>aG Γ (.exit 0) (Cl u [] [(mZ (xw l10))])|(.inr (l11,l12,l13))=>aG Γ (.goto 0) (Ni CS Qb u [(8,(.vsl 25 l13.length))] [(5,.arr 1 230 64 (λi=>eB (l11.getD i false))),(yR l12),(Z4 25 l13)])) (λl9 y h=>tC h λc14_ h=>tC h λc15_ h=>tU q [2,5,6,7,8,9,41] Qb (c3 c14_ (Eq.refl 64) c15_) (gC h (λh=>tC h λc16_ h=>tC h λc17_ h=>tC h λc18_ h=>tU q bS Qb (c4 c16_ c17_ (Eq.refl 64) c18_) (tC h λc19_ h=>tC h λc20_ h=>tU q bS Qb (c4 c19_ (Eq.refl 64) c20_ (Eq.refl 64)) (gLe (Sr 6 (show ∀ k_,k_<64->AVleL ((λi_=>AV.eraseAll eX ((Fc (λi=>Ap (l9.getD i 0)) (ii v1).toNat 0 [(.int .i64 (w64 ((l9.getD (ii v1).toNat (0:Int))+1)))]) i_)) k_) ((λi=>Ap ((Qa 64 (0:Int) l9 (ii v1).toNat (w64 ((l9.getD (ii v1).toNat (0:Int))+1))).getD i 0)) k_) from(Bh rfl (λk_ hk_=>(Bg (AV.eraseAll eX) ((Wp (λ_ _=>rfl) (Qm c20_) rfl) k_ hk_)).trans rfl)))) (tC h λc21_ h=>tU q qp Qb (c2 c21_ (Eq.refl 64)) (gC h (λh=>tC h λc22_ h=>tU q [2,5,6,7,8,10] Qb (c2 c22_ (Eq.refl 64)) (gLe (Sr 5 (show ∀ k_,k_<64->AVleL ((λi_=>AV.eraseAll eX ((Fc (uX v1) (q9 v18 v1 l9).toNat 0 [(.bool true)]) i_)) k_) ((λi=>eB ((Qa 64 false (Qa 64 false (List.replicate 64 false) v1.toNat true) (q9 v18 v1 l9).toNat true).getD i false)) k_) from(Bh rfl (λk_ hk_=>(Bg (AV.eraseAll eX) ((Wp (λ_ _=>rfl) (Qm c22_) rfl) k_ hk_)).trans rfl)))) (tC h λc23_ h=>gR q CS Qb [(65,(ub (q9 v18 v1 l9)))] [] (c3 (Bp 1 Ap (0:Int) ([(q9 v18 v1 l9)]:Ar)) (Eq.refl ([v1].length)) c23_) (tS h (gO (Bd (Le.trans (Le.trans (Sr 25 (show ∀ k_,k_<([v1].length+([(q9 v18 v1 l9)]:Ar).length)->AVleL ((λi_=>AV.eraseAll eX ((O0 ([v1].length) (vQ v1) (λi=>Ap (([(q9 v18 v1 l9)]:Ar).getD i 0))) i_)) k_) ((λi=>Ap (([v1]++([(q9 v18 v1 l9)]:Ar)).getD i 0)) k_) from(Bh (E3 _ _) (λk_ hk_=>(Bg (AV.eraseAll eX) ((GQ (λ_ _=>rfl) (λ_ _=>rfl)) k_ hk_)).trans rfl)))) (Sa (λ(k_:Nat) u=>(Cl u [(8,(.vsl 25 k_))] [(25,.arr 1 3 k_ (λi=>Ap (([v1]++([(q9 v18 v1 l9)]:Ar)).getD i 0)))])) (show([v1].length+([(q9 v18 v1 l9)]:Ar).length)=([v1]++([(q9 v18 v1 l9)]:Ar)).length from(E3 _ _)))) Iq))))))) λh=>tS h (gN (Bi FB Qb q))))))) λh=>tS h (gO (Bd (Bi FB Qb q))))) λx24 h=>(match x24,h with | .inl l10,h=>gA (tC h λc26_ h=>gR q CS Qb [(69,(ub (ii v1)))] [] (c3 (Bp 1 Ap (0:Int) ([(ii v1)]:Ar)) (Eq.refl (([]:Ar).length)) c26_) (gLe (Le.trans (Sr 36007 (show ∀ k_,k_<(([]:Ar).length+([(ii v1)]:Ar).length)->AVleL ((λi_=>AV.eraseAll eX ((O0 (([]:Ar).length) zj (λi=>Ap (([(ii v1)]:Ar).getD i 0))) i_)) k_) ((xA v1) k_) from(Bh (E3 _ _) (λk_ hk_=>(Bg (AV.eraseAll eX) ((GQ (λ_ _=>rfl) (λ_ _=>rfl)) k_ hk_)).trans rfl)))) (Sa (λ(k_:Nat) u=>(Cl u [(Vl 36007 k_)] [(36007,.arr 1 3 k_ (xA v1))])) (show(([]:Ar).length+([(ii v1)]:Ar).length)=(rB v1).length from(E3 _ _)))) (tC h λc27_ h=>tU q CS Qb (c1 c27_) (Qc (⟨[Uk,nS,nR,(7,(.vsl 36007 (rB v1).length)),(8,(.vsub 25 [v1].length 0 (w6 v1)))],[(Pu 56 (m9 v18)),(OQ (uX v1)),(mZ (xw l10)),(25,.arr 1 3 ([v1].length) (vQ v1)),(36007,.arr 1 3 ((rB v1).length) (xA v1))],[]⟩:St) (gLe (Le.trans (Le.trans (cx (t:=8) (r:=25) (k:=(w6 v1)) rfl rfl c27_.2 (by kernel_rfl) (.row (by kernel_rfl) (.arr (λ_=>by kernel_rfl) (.arr (λ_=>by kernel_rfl) (.arr (λ_=>by kernel_rfl) (.arr (λ_=>by kernel_rfl) .nil))))) (by rw[hΓ];rfl)) (Gt (st':=⟨(Q55 v1),[(Pu 56 (m9 v18)),(OQ (uX v1)),(mZ (xw l10)),(25,.arr 1 3 (w6 v1) (vQ v1)),(36007,.arr 1 3 ((rB v1).length) (xA v1))],[]⟩) (by kernel_rfl))) (Le.trans (I8 (st':=⟨(Q55 v1),[(Pu 56 (m9 v18)),(OQ (uX v1)),(mZ (xw l10)),(25,.arr 1 3 (w6 v1) (λi=>Ap ((Q52 v1).getD i 0))),(36007,.arr 1 3 ((rB v1).length) (xA v1))],[]⟩) (TmpsLe.refl _) (.same (.same (.same (.arr (j4 (e:=Ap) (d:=(0:Int))) (.same .nil)))))) (Gt (Bg (λk_:Nat=>(⟨[Uk,nS,nR,(7,(.vsl 36007 (rB v1).length)),(8,(.vsl 25 k_))],[(Pu 56 (m9 v18)),(OQ (uX v1)),(mZ (xw l10)),(25,.arr 1 3 k_ (λi=>Ap ((Q52 v1).getD i 0))),(36007,.arr 1 3 ((rB v1).length) (xA v1))],[]⟩:St)) (show(w6 v1)=(Q52 v1).length from eG c27_.2))))) (Af q [2,5,6,7,8,78] Qb (gC h (λh=>tS h (fg (Bi CS Qb q))) λh=>tB h λx28 y28 h=>tC h λc29_ h=>tT q [7] [36007] [⟨[(36007,34000)],[],(.tuple []),[(Z4 34000 x28)],[],[]⟩] (c1 (On y28)) (gLe (Sa (λ(k_:Nat) u=>(Cl u [(Vl 36007 k_)] [])) (show(rB v1).length=x28.length from c29_)) (Af q [4] [36007] (Qc (⟨[(4,(.vsl 36007 x28.length))],[(Z4 36007 x28)],[]⟩:St) (tS h (ee (Lm (H6 [(36007,20000)] (Le.trans (le_freeze (nm:=36007) (sz:=1) (n:=x28.length) (e:=3) (f:=(λi=>Ap (x28.getD i 0))) (g:=(λi=>Ap (x28.getD i 0))) rfl ⟨rfl,trivial⟩ (λ_ _=>rfl) (by rw[hΓ];rfl)) (Gt (st':=⟨[(4,(V8 x28 36007))],[(Yt 36007 x28.length)],[]⟩) (by kernel_rfl))))))))))))))))) | .inr ⟨l11,l12,l13⟩,h=>um (λst' hl30=>tS h (fg (Le.trans hl30 Iq))))))))))))))))) (λ⟨l1,l2,l3,l4⟩ y h=>tC h λc31_ h=>tU q FB Qb (c2 c31_ (Eq.refl l3.length)) (tL q h FB Qb (λu l32=>(Cl u [] [(yR l32)])) (λu x_=>match x_ with|(.inl l33)=>aG Γ (.exit 0) (Cl u [] [(mZ (yE l33))])|(.inr (l34,l35,l36))=>aG Γ (.goto 0) (Ni CS Qb u [(8,(.vsl 25 l36.length))] [(5,.arr 1 230 64 (λi=>eB (l34.getD i false))),(yR l35),(Z4 25 l36)])) (λl32 y h=>tC h λc37_ h=>tC h λc38_ h=>tU q [2,5,6,7,8,9,41] Qb (c3 c37_ (Eq.refl 64) c38_) (gC h (λh=>tC h λc39_ h=>tC h λc40_ h=>tC h λc41_ h=>tU q bS Qb (c4 c39_ c40_ (Eq.refl 64) c41_) (tC h λc42_ h=>tC h λc43_ h=>tU q bS Qb (c4 c42_ (Eq.refl 64) c43_ (Eq.refl 64)) (gLe (Sr 6 (show ∀ k_,k_<64->AVleL ((λi_=>AV.eraseAll eX ((Fc (λi=>Ap (l32.getD i 0)) (mV l3).toNat 0 [(.int .i64 (w64 ((l32.getD (mV l3).toNat (0:Int))+1)))]) i_)) k_) ((λi=>Ap ((Qa 64 (0:Int) l32 (mV l3).toNat (w64 ((l32.getD (mV l3).toNat (0:Int))+1))).getD i 0)) k_) from(Bh rfl (λk_ hk_=>(Bg (AV.eraseAll eX) ((Wp (λ_ _=>rfl) (Qm c43_) rfl) k_ hk_)).trans rfl)))) (tC h λc44_ h=>tU q qp Qb (c2 c44_ (Eq.refl 64)) (gC h (λh=>tC h λc45_ h=>tU q [2,5,6,7,8,10] Qb (c2 c45_ (Eq.refl 64)) (gLe (Sr 5 (show ∀ k_,k_<64->AVleL ((λi_=>AV.eraseAll eX ((Fc (w8 l1) (rA v18 l3 l32).toNat 0 [(.bool true)]) i_)) k_) ((λi=>eB ((Qa 64 false l1 (rA v18 l3 l32).toNat true).getD i false)) k_) from(Bh rfl (λk_ hk_=>(Bg (AV.eraseAll eX) ((Wp (λ_ _=>rfl) (Qm c45_) rfl) k_ hk_)).trans rfl)))) (tC h λc46_ h=>gR q CS Qb [(65,(ub (rA v18 l3 l32)))] [] (c3 (Bp 1 Ap (0:Int) ([(rA v18 l3 l32)]:Ar)) (Eq.refl l3.length) c46_) (tS h (gO (Bd (Le.trans (Le.trans (Sr 25 (show ∀ k_,k_<(l3.length+([(rA v18 l3 l32)]:Ar).length)->AVleL ((λi_=>AV.eraseAll eX ((O0 l3.length (λi=>Ap (l3.getD i 0)) (λi=>Ap (([(rA v18 l3 l32)]:Ar).getD i 0))) i_)) k_) ((λi=>Ap ((l3++([(rA v18 l3 l32)]:Ar)).getD i 0)) k_) from(Bh (E3 _ _) (λk_ hk_=>(Bg (AV.eraseAll eX) ((GQ (λ_ _=>rfl) (λ_ _=>rfl)) k_ hk_)).trans rfl)))) (Sa (λ(k_:Nat) u=>(Cl u [(8,(.vsl 25 k_))] [(25,.arr 1 3 k_ (λi=>Ap ((l3++([(rA v18 l3 l32)]:Ar)).getD i 0)))])) (show(l3.length+([(rA v18 l3 l32)]:Ar).length)=(l3++([(rA v18 l3 l32)]:Ar)).length from(E3 _ _)))) Iq))))))) λh=>tS h (gN (Bi FB Qb q))))))) λh=>tS h (gO (Bd (Bi FB Qb q))))) λx47 h=>(match x47,h with | .inl l33,h=>gA (tC h λc49_ h=>gR q CS Qb [(69,(ub (mV l3)))] [] (c3 (Bp 1 Ap (0:Int) ([(mV l3)]:Ar)) (Eq.refl l4.length) c49_) (gLe (Le.trans (Sr 36007 (show ∀ k_,k_<(l4.length+([(mV l3)]:Ar).length)->AVleL ((λi_=>AV.eraseAll eX ((O0 l4.length (λi=>Ap (l4.getD i 0)) (λi=>Ap (([(mV l3)]:Ar).getD i 0))) i_)) k_) ((w9 l4 l3) k_) from(Bh (E3 _ _) (λk_ hk_=>(Bg (AV.eraseAll eX) ((GQ (λ_ _=>rfl) (λ_ _=>rfl)) k_ hk_)).trans rfl)))) (Sa (λ(k_:Nat) u=>(Cl u [(Vl 36007 k_)] [(36007,.arr 1 3 k_ (w9 l4 l3))])) (show(l4.length+([(mV l3)]:Ar).length)=(nJ l4 l3).length from(E3 _ _)))) (tC h λc50_ h=>tU q CS Qb (c1 c50_) (Qc (⟨[Uk,nS,nR,(7,(.vsl 36007 (nJ l4 l3).length)),(8,(.vsub 25 l3.length 0 (vO l3)))],[(Pu 56 (m9 v18)),(OQ (w8 l1)),(mZ (yE l33)),(Z4 25 l3),(36007,.arr 1 3 ((nJ l4 l3).length) (w9 l4 l3))],[]⟩:St) (gLe (Le.trans (Le.trans (cx (t:=8) (r:=25) (k:=(vO l3)) rfl rfl c50_.2 (by kernel_rfl) (.row (by kernel_rfl) (.arr (λ_=>by kernel_rfl) (.arr (λ_=>by kernel_rfl) (.arr (λ_=>by kernel_rfl) (.arr (λ_=>by kernel_rfl) .nil))))) (by rw[hΓ];rfl)) (Gt (st':=⟨[Uk,nS,nR,(7,(.vsl 36007 (nJ l4 l3).length)),(8,(.vsl 25 (vO l3)))],[(Pu 56 (m9 v18)),(OQ (w8 l1)),(mZ (yE l33)),(25,.arr 1 3 (vO l3) (λi=>Ap (l3.getD i 0))),(36007,.arr 1 3 ((nJ l4 l3).length) (w9 l4 l3))],[]⟩) (by kernel_rfl))) (Le.trans (I8 (st':=⟨[Uk,nS,nR,(7,(.vsl 36007 (nJ l4 l3).length)),(8,(.vsl 25 (vO l3)))],[(Pu 56 (m9 v18)),(OQ (w8 l1)),(mZ (yE l33)),(25,.arr 1 3 (vO l3) (λi=>Ap ((l3.take (w64 ((l3.length:Int)-1)).toNat).getD i 0))),(36007,.arr 1 3 ((nJ l4 l3).length) (w9 l4 l3))],[]⟩) (TmpsLe.refl _) (.same (.same (.same (.arr (j4 (e:=Ap) (d:=(0:Int))) (.same .nil)))))) (Gt (Bg (λk_:Nat=>(⟨[Uk,nS,nR,(7,(.vsl 36007 (nJ l4 l3).length)),(8,(.vsl 25 k_))],[(Pu 56 (m9 v18)),(OQ (w8 l1)),(mZ (yE l33)),(25,.arr 1 3 k_ (λi=>Ap ((l3.take (w64 ((l3.length:Int)-1)).toNat).getD i 0))),(36007,.arr 1 3 ((nJ l4 l3).length) (w9 l4 l3))],[]⟩:St)) (show(vO l3)=(l3.take (w64 ((l3.length:Int)-1)).toNat).length from eG c50_.2))))) (Af q [2,5,6,7,8,78] Qb (gC h (λh=>tS h (fg (Bi CS Qb q))) λh=>tB h λx51 y51 h=>tC h λc52_ h=>tT q [7] [36007] [⟨[(36007,34000)],[],(.tuple []),[(Z4 34000 x51)],[],[]⟩] (c1 (On y51)) (gLe (Sa (λ(k_:Nat) u=>(Cl u [(Vl 36007 k_)] [])) (show(nJ l4 l3).length=x51.length from c52_)) (Af q [4] [36007] (Qc (⟨[(4,(.vsl 36007 x51.length))],[(Z4 36007 x51)],[]⟩:St) (tS h (ee (Lm (H6 [(36007,20000)] (Le.trans (le_freeze (nm:=36007) (sz:=1) (n:=x51.length) (e:=3) (f:=(λi=>Ap (x51.getD i 0))) (g:=(λi=>Ap (x51.getD i 0))) rfl ⟨rfl,trivial⟩ (λ_ _=>rfl) (by rw[hΓ];rfl)) (Gt (st':=⟨[(4,(V8 x51 36007))],[(Yt 36007 x51.length)],[]⟩) (by kernel_rfl))))))))))))))))) | .inr ⟨l34,l35,l36⟩,h=>um (λst' hl53=>tS h (fg (Le.trans hl53 Iq)))))) (O3 (λst' hk=>tS h (gK hk))))
def HI(aC:Int)(aZ:Int):Option Gq:=
 (some ((Iu ((Iu ((Iu ((Wv .u64 aC (32:Int))*(Wv .u64 aZ (32:Int))))+(Wv .u64 (Iu ((Iu ((Wv .u64 aC (32:Int))*(Up .and .u64 aZ (4294967295:Int))))+(Wv .u64 (Iu ((Up .and .u64 aC (4294967295:Int))*(Up .and .u64 aZ (4294967295:Int)))) (32:Int)))) (32:Int))))+(Wv .u64 (Iu ((Up .and .u64 (Iu ((Iu ((Wv .u64 aC (32:Int))*(Up .and .u64 aZ (4294967295:Int))))+(Wv .u64 (Iu ((Up .and .u64 aC (4294967295:Int))*(Up .and .u64 aZ (4294967295:Int)))) (32:Int)))) (4294967295:Int))+(Iu ((Up .and .u64 aC (4294967295:Int))*(Wv .u64 aZ (32:Int)))))) (32:Int)))),(Iu (aC*aZ))))
variable{v19:Gq}
theorem VA(h:HI v1 v11=some v19):sP 247 (vq v1 v11) [] (.tuple (vq v19.1 v19.2)) []:=
 sG Tryz.func247 λΓ q=>tW q Gn [] [0,1,6] [] (tU q TN [] (c1 (show(0<=(32:Int)) from(by decide))) (Af q TC [] (tU q [0,1,6,7,8,9] [] (c1 (show(0<=(32:Int)) from(by decide))) (Af q [0,1,6,7,8,9,10] [] (tU q [0,1,6,7,9,11] [] (c1 (show(0<=(32:Int)) from(by decide))) (Af q [0,1,6,7,9,11,12] [] (tU q [0,1,6,7,9,12,13] [] (c1 (show(0<=(32:Int)) from(by decide))) (Af q [0,1,7,9,12,13] [] (tU q [0,1,4] [] (c1 (show(0<=(32:Int)) from(by decide))) (Af q [4,5] [] (tS h (Cc []))))))))))))
def Ro(aC:Int)(aZ:Int):Option Gq:=
 ((HI aC aZ).bind λx1=>(some (x1.1,x1.2)))
theorem LO(h:Ro v1 v11=some v19):sP 209 (vq v1 v11) [] (.tuple (vq v19.1 v19.2)) []:=
 sG Tryz.func209 λΓ q=>Af q Gn [] (oi false (tB h λx1 y1 h=>tT q [8,9] [] [⟨[],[],(.tuple (vq x1.1 x1.2)),[],[],[]⟩] (c1 (VA y1)) (Af q [4,5] [] (tS h (Cc [])))))
abbrev CE:=(Int×Ar)
abbrev qW:=(LR (Int×Ar) Ar)
def Dj :CE->Option qW:=
 λ((i7,l8):CE)=>(bif (decide (i7<(l8.length:Int))) then(A0 (0<=i7/\0+i7.toNat<=l8.length) (A0 (0<=i7/\0+i7.toNat<=l8.length) (some (.next ((w64 (i7+((Nat.min ((0+i7.toNat)-0) (l8.length-(0+i7.toNat))):Int))),(NT l8 (0+i7.toNat) (Nat.min ((0+i7.toNat)-0) (l8.length-(0+i7.toNat))) (λi=>l8.getD (0+i) 0))))))) else(some (.done l8)))
def nK(x3:Gq):=(List.replicate (w64 x3.2).toNat (0:Int))
def Q58(x3:Gq)(aC:Ar):=(NT (nK x3) 0 (Nat.min aC.length ((nK x3).length-0)) (λi=>aC.getD i 0))
def Q57(l8:Ar)(i7:Int):=(NT l8 (0+i7.toNat) (Nat.min ((0+i7.toNat)-0) (l8.length-(0+i7.toNat))) (λi=>l8.getD (0+i) 0))
def Ip(aC:Ar)(aa8:Int):Option Ar:=
 (Option.bind (α:=Unit) (bif (decide (aa8<0)) then none else(some ())) (λx1=>(match x1 with|_=>((Ro (Iu (aC.length:Int)) (Iu aa8)).bind λx3=>(Option.bind (α:=Unit) (bif (bif (decide ((0:Int)<x3.1)) then true else(decide ((9223372036854775807:Int)<x3.2))) then none else(some ())) (λx4=>(match x4 with|_=>(A0 (0<=(w64 x3.2)/\(w64 x3.2)<=(w64 x3.2)/\(w64 x3.2)<=(room:Int)) ((Ac (S:=CE) (X:=Ar) Dj (((Nat.min aC.length ((List.replicate (w64 x3.2).toNat (0:Int)).length-0)):Int),(NT (List.replicate (w64 x3.2).toNat (0:Int)) 0 (Nat.min aC.length ((List.replicate (w64 x3.2).toNat (0:Int)).length-0)) (λi=>aC.getD i 0)))).bind (λx12=>(some x12)))))))))))
theorem Vx(h:Ip v2 v1=some v17):sP 197 [(Z6 v2),(Z5 v1)] [] (.vsl 20000 v17.length) [(Z4 20000 v17)]:=
 sG Tryz.func197 λΓ q=>gR q Gn [] [(4,fG)] [] (c1 (B0 1 Ap (0:Int))) (tB h λx1 y1 h=>gJ y1 (λ_=>aG Γ .normal (⟨[(0,(Z6 v2)),(1,(Z5 v1))],[],[]⟩:St)) (λy h=>Af q Yo [] (gC h (λh=>nomatch h) λh=>tS h (gK (Bd (Bi Gn [] q))))) (gA (tB h λx3 y3 h=>tT q [0,5,6] [] [⟨[],[],(.tuple (vq x3.1 x3.2)),[],[],[]⟩] (c1 (LO y3)) (tB h λx4 y4 h=>gJ y4 (λ_=>aG Γ .normal (⟨[(0,(Z6 v2)),(6,(.int .u64 x3.2))],[],[]⟩:St)) (λy h=>tU q [0,6,26] [] (c2 (gI ((decide ((0:Int)<x3.1))==false)) (Ng (decide ((0:Int)<x3.1)))) (gC h (λh=>nomatch h) λh=>tS h (gK (Bd (Bi [0,6] [] q))))) (gA (tV q [0,7] [30] h λh=>by exact gLe (Le.trans (Sr 30 (show ∀ k_,k_<((w64 x3.2).toNat)->AVleL ((λi_=>AV.eraseAll (λn_=>Bw n_ [30]) ((λ_=>[L9]) i_)) k_) ((λi=>Ap ((nK x3).getD i 0)) k_) from(λk hk=>M7 (e:=Ap) (d:=(0:Int)) (.cons (AVle.refl _) .nil) _ k (M8 hk)))) (Sa (λ(k_:Nat) u=>(Cl u [(Vl 30 k_)] [(30,.arr 1 3 k_ (λi=>Ap ((nK x3).getD i 0)))])) (show(w64 x3.2).toNat=(nK x3).length from(N9 ..).symm))) (tU q [7,8] [30] (c1 (Eq.refl ((nK x3).length))) (gLe (Le.trans (Sr 30 (show ∀ k_,k_<((nK x3).length)->AVleL ((λi_=>AV.eraseAll (λn_=>Bw n_ [30]) ((WC (λi=>Ap ((nK x3).getD i 0)) 0 (Nat.min v2.length ((nK x3).length-0)) (λi=>Ap (v2.getD i 0))) i_)) k_) ((λi=>Ap ((Q58 x3 v2).getD i 0)) k_) from(Bh (En ..) (λk_ hk_=>(Bg (AV.eraseAll (λn_=>Bw n_ [30])) ((NS (e:=Ap) (d:=(0:Int)) (l:=(nK x3)) (s:=(λi=>v2.getD i 0)) (λ_ _=>rfl) (λ_ _=>rfl)) k_ hk_)).trans rfl)))) (Sa (λ(k_:Nat) u=>(Cl u [(Vl 30 k_)] [(30,.arr 1 3 k_ (λi=>Ap ((Q58 x3 v2).getD i 0)))])) (show(nK x3).length=(Q58 x3 v2).length from(En ..)))) (tL q h [7,8] [30] (λu (i7,l8)=>(Cl u [(Vl 30 l8.length),(8,(Z5 i7))] [(Z4 30 l8)])) (λu l9=>aG Γ (.exit 0) (⟨[(Vl 30 l9.length)],[(Z4 30 l9)],[]⟩:St)) (λ⟨i7,l8⟩ y h=>Af q [7,8,37] [30] (gC h (λh=>tC h λc10_ h=>tC h λc11_ h=>tU q [7,8] [30] (c4 c10_ c11_ (Eq.refl l8.length) (Eq.refl l8.length)) (tS h (gN (Le.trans (Le.trans (Sr 30 (show ∀ k_,k_<l8.length->AVleL ((λi_=>AV.eraseAll (λn_=>Bw n_ [30]) ((WC (λi=>Ap (l8.getD i 0)) (0+i7.toNat) (Nat.min ((0+i7.toNat)-0) (l8.length-(0+i7.toNat))) (λi=>(λi=>Ap (l8.getD i 0)) (0+i))) i_)) k_) ((λi=>Ap ((Q57 l8 i7).getD i 0)) k_) from(Bh (En ..) (λk_ hk_=>(Bg (AV.eraseAll (λn_=>Bw n_ [30])) ((NS (e:=Ap) (d:=(0:Int)) (l:=l8) (s:=(λi=>l8.getD (0+i) 0)) (λ_ _=>rfl) (λ_ _=>rfl)) k_ hk_)).trans rfl)))) (Sa (λ(k_:Nat) u=>(Cl u [(Vl 30 k_)] [(30,.arr 1 3 k_ (λi=>Ap ((Q57 l8 i7).getD i 0)))])) (show l8.length=(Q57 l8 i7).length from(En ..)))) Iq)))) λh=>tS h (gO (Bd (Bi [7] [30] q))))) λx12 h=>gA (Af q [4] [30] (tS h (Cc [(30,20000)]))))))))))))
abbrev Zz:=(Int×List Bool)
abbrev bN:=(LR (Int×List Bool) (List Bool))
def La(a8:Ar):Zz->Option bN:=
 λ((i2,l3):Zz)=>(bif (i2 !=-1) then(A0 (A1 i2 l3.length) (A0 (A1 i2 a8.length) (some (.next ((a8.getD i2.toNat 0),(l3.set i2.toNat true)))))) else(some (.done l3)))
def I9(a8:Ar)(l4:List Bool):Int->Option (LR Int Int):=
 λ(i9:Int)=>(A0 (A1 i9 l4.length) (bif (!(l4.getD i9.toNat false)) then(A0 (A1 i9 a8.length) (some (.next (a8.getD i9.toNat 0)))) else(some (.done i9))))
def Rq(a8:Ar)(aI:Int)(aL:Int):Option Int:=
 (A0 (0<=(a8.length:Int)/\(a8.length:Int)<=(a8.length:Int)/\(a8.length:Int)<=(room:Int)) ((Ac (La a8) (aI,(List.replicate (a8.length:Int).toNat false))).bind (λx7=>((Ac (I9 a8 x7) aL).bind (λx13=>(some x13))))))
variable{v20:Int}
theorem LP(h:Rq v2 v1 v11=some v20):sP 240 [(Z6 v2),(Z5 v1),(Z5 v11)] [] (.int .i64 v20) []:=
 sG Tryz.func240 λΓ q=>Af q TU [] (tV q [0,1,2,7] [11] h λh=>by exact gLe (Le.trans (Sr 11 (show ∀ k_,k_<((v2.length:Int).toNat)->AVleL ((λi_=>AV.eraseAll (λn_=>Bw n_ [11]) ((λ_=>[(.bool false)]) i_)) k_) ((λi=>eB ((List.replicate (v2.length:Int).toNat false).getD i false)) k_) from(λk hk=>M7 (e:=eB) (d:=false) (.cons (AVle.refl _) .nil) _ k (M8 hk)))) (Sa (λ(k_:Nat) u=>(Cl u [(Vl 11 k_)] [(11,.arr 1 4 k_ (λi=>eB ((List.replicate (v2.length:Int).toNat false).getD i false)))])) (show(v2.length:Int).toNat=(List.replicate (v2.length:Int).toNat false).length from(N9 ..).symm))) (Af q be [11] (tL q h be [11] (λu (i2,l3)=>(Cl u [(Vl 11 l3.length),(8,(Z5 i2))] [(Z9 11 l3)])) (λu l4=>aG Γ (.exit 0) (Ni TV [11] u [(Vl 11 l4.length)] [(Z9 11 l4)])) (λ⟨i2,l3⟩ y h=>Af q [0,2,7,8,14] [11] (gC h (λh=>tC h λc5_ h=>tU q be [11] (c2 c5_ (Eq.refl l3.length)) (gLe (Le.trans (Sr 11 (show ∀ k_,k_<l3.length->AVleL ((λi_=>AV.eraseAll (λn_=>Bw n_ [11]) ((Fc (λi=>eB (l3.getD i false)) i2.toNat 0 [(.bool true)]) i_)) k_) ((λi=>eB ((l3.set i2.toNat true).getD i false)) k_) from(Bh (C8 ..).symm (λk_ hk_=>(Bg (AV.eraseAll (λn_=>Bw n_ [11])) ((Fu (λ_ _=>rfl) (Hv c5_) rfl) k_ hk_)).trans rfl)))) (Sa (λ(k_:Nat) u=>(Cl u [(Vl 11 k_)] [(11,.arr 1 4 k_ (λi=>eB ((l3.set i2.toNat true).getD i false)))])) (show l3.length=(l3.set i2.toNat true).length from(C8 ..).symm))) (tV q be [11] h λh=>tN h))) λh=>tS h (gO (Bd (Bi TV [11] q))))) λx7 h=>gA (tL q h TV [11] (λu i9=>(Cl u [(2,(Z5 i9))] [])) (λu i10=>aG Γ (.exit 2) (⟨[(2,(Z5 i10))],[],[]⟩:St)) (λi9 y h=>tC h λc11_ h=>tU q [0,2,7,26] [11] (c2 c11_ (Eq.refl x7.length)) (gC h (λh=>tV q TV [11] h λh=>tN h) λh=>tS h (gO (Bd (Bi [2] [] q))))) λx13 h=>gA (Af q [6] [] (tS h (Cc [])))))))
set_option maxRecDepth 100000
set_option maxHeartbeats 2000000
def F9(a8:Ar)(a9:Ar):Gq->Option uM:=
 λ((i1,i2):Gq)=>(bif (decide (i2<(a9.length:Int))) then(Option.bind (α:=Int) (A0 (A1 i2 a9.length) (A0 (A1 (a9.getD i2.toNat 0) a8.length) (bif ((a8.getD (a9.getD i2.toNat 0).toNat (0:Int))==-2) then(some i1) else(bif (i1==-2) then(some (a9.getD i2.toNat 0)) else((Rq a8 i1 (a9.getD i2.toNat 0)).bind λx7=>(some x7)))))) (λx8=>(some (.next (x8,(w64 (i2+1))))))) else(some (.done i1)))
def Mz(a8:Ar)(a9:Ar):Option Int:=
 ((Ac (F9 a8 a9) ((-2:Int),(0:Int))).bind (λx10=>(some x10)))
theorem BF(h:Mz v2 v17=some v1):sP 198 [(Z6 v2),(Z6 v17)] [] (.int .i64 v1) []:=
 sG Tryz.func198 λΓ q=>tW q Gn [] Nd [] (Af q YO [] (tL q h YO [] (λu (i1,i2)=>(Cl u [(5,(Z5 i1)),(10,(Z5 i2))] [])) (λu i3=>aG Γ (.exit 0) (⟨[(5,(Z5 i3))],[],[]⟩:St)) (λ⟨i1,i2⟩ y h=>Af q [0,5,8,9,10,11] [] (gC h (λh=>tB h λx8 y8 h=>gJ y8 (λi4=>aG Γ .normal (⟨[(0,(Z6 v2)),(5,(Z5 i4)),(8,(Z6 v17)),(9,(.int .i64 (v17.length:Int))),(10,(Z5 i2))],[],[]⟩:St)) (λy h=>tV q [0,5,7,8,9,10] [] h λh=>tV q [0,5,7,8,9,10,18] [] h λh=>gC h (λh=>tS h (gK (Bd (Bi YO [] q)))) λh=>Af q [0,5,7,8,9,10,24] [] (gC h (λh=>Af q YO [] (tS h (gK (Bd Iq)))) λh=>tB h λx7 y7 h=>tT q YO [] [(ZA x7)] (c1 (LP y7)) (tS h (gK (Bd Iq))))) (gA (Af q YO [] (tN h)))) λh=>tS h (gO (Bd (Bi [5] [] q))))) λx10 h=>gA (Af q [4] [] (tS h (Cc [])))))
abbrev uK:=(Bool×Int×Ar)
abbrev zM:=(LR (Bool×Int×Ar) (Bool×Ar))
abbrev qX:=(Bool×Ar)
def Fl(a4:TGraph)(x3:Ar):uK->Option zM:=
 λ((b7,i8,l9):uK)=>(bif (decide (i8<((x3.drop (1:Int).toNat).length:Int))) then(Option.bind (α:=qX) (A0 (A1 i8 (x3.drop (1:Int).toNat).length) (A0 (A1 ((x3.drop (1:Int).toNat).getD i8.toNat 0) a4.Pred.length) ((Mz l9 (a4.Pred.getD ((x3.drop (1:Int).toNat).getD i8.toNat 0).toNat [])).bind λx16=>(A0 (A1 ((x3.drop (1:Int).toNat).getD i8.toNat 0) l9.length) (bif (x16 !=(l9.getD ((x3.drop (1:Int).toNat).getD i8.toNat 0).toNat (0:Int))) then(A0 (A1 ((x3.drop (1:Int).toNat).getD i8.toNat 0) l9.length) (some (true,(l9.set ((x3.drop (1:Int).toNat).getD i8.toNat 0).toNat x16)))) else(some (b7,l9))))))) (λ(b12,l13)=>(some (.next (b12,(w64 (i8+1)),l13))))) else(some (.done (b7,l9))))
def Vp(a4:TGraph)(l1:Ar):uK->Option zM:=
 λ((b24,i25,l26):uK)=>(bif (decide (i25<((l1.drop (1:Int).toNat).length:Int))) then(Option.bind (α:=qX) (A0 (A1 i25 (l1.drop (1:Int).toNat).length) (A0 (A1 ((l1.drop (1:Int).toNat).getD i25.toNat 0) a4.Pred.length) ((Mz l26 (a4.Pred.getD ((l1.drop (1:Int).toNat).getD i25.toNat 0).toNat [])).bind λx33=>(A0 (A1 ((l1.drop (1:Int).toNat).getD i25.toNat 0) l26.length) (bif (x33 !=(l26.getD ((l1.drop (1:Int).toNat).getD i25.toNat 0).toNat (0:Int))) then(A0 (A1 ((l1.drop (1:Int).toNat).getD i25.toNat 0) l26.length) (some (true,(l26.set ((l1.drop (1:Int).toNat).getD i25.toNat 0).toNat x33)))) else(some (b24,l26))))))) (λ(b29,l30)=>(some (.next (b29,(w64 (i25+1)),l30))))) else(some (.done (b24,l26))))
abbrev qY:=(Ar×Ar)
def Hx(a4:TGraph):qY->Option (LR (Ar×Ar) Ar):=
 λ(s_:qY)=>match s_ with|(l1,l2)=>(A0 (0<=(1:Int)/\(1:Int)<=(l1.length:Int)) ((Ac (Vp a4 l1) (false,(0:Int),l2)).bind (λx38=>(match x38 with|(b27,l28)=>(bif b27 then(some (.next (l1,l28))) else(some (.done l28)))))))
def ek(Γ:H5)(a4:TGraph)(aa1:Int)(r:Ar):Exit->St->Prop:=fK Tryz.prog Γ Tryz.f152.results.toList [] (V8 r 20000) [(Yt 20000 r.length)]
def xB:=(λn_=>Bw n_ [2,13,21])
def zo:List MK:=[(4,fG)]
def zl(x3:Ar)(i8:Int):=((x3.drop (1:Int).toNat).getD i8.toNat 0)
def zk(l1:Ar)(i25:Int):=((l1.drop (1:Int).toNat).getD i25.toNat 0)
def Q62(a4:TGraph):List AV:=[(NM a4.Succ),(NM a4.Pred)]
def Q64:=(Z33:St)
def Tv(a4:TGraph)(aa1:Int):Option Ar:=
 ((Rx (S:=qY) (X:=Ar) ((Lb a4 aa1).bind λx3=>(bif ((x3.length:Int)==0) then(some (.done ([]:Ar))) else((Ip ([(-2:Int)]:Ar) (a4.Succ.length:Int)).bind λx4=>(A0 (A1 aa1 x4.length) (A0 (0<=(1:Int)/\(1:Int)<=(x3.length:Int)) ((Ac (Fl a4 x3) (false,(0:Int),(x4.set aa1.toNat (-1:Int)))).bind (λ(b10,l11)=>(bif b10 then(some (.next (x3,l11))) else(some (.done l11)))))))))) (Hx a4)).bind (λx40=>(some x40)))
theorem dY(h:Tv v18 v1=some v2):sP 152 (sH v18 v1) [] (V8 v2 20000) [(Yt 20000 v2.length)]:=
 sG Tryz.func152 λΓ q=>have hΓ:=q.own;gR q Ee [2] zo [] (c1 (B0 1 Ap (0:Int))) (tB h λx40 y40 h=>gS y40 (λ(s_:qY)=>match s_ with|(l1,l2)=>0) (λ(s_:qY)=>match s_ with|(l1,l2)=>(⟨[Uk,(5,(V8 l1 13)),(6,(.vsl 21 l2.length))],[(Pu 56 (Q62 v18)),(Yt 13 l1.length),(Z4 21 l2)],[]⟩:St)) (λr_=>aR (ek Γ v18 v1 r_)) (λy h=>tB h λx3 y3 h=>tT q V4 [2,13] [(vk 13 x3 x3.length)] (c1 (BG y3)) (Af q [1,2,5,16] [2,13] (gC h (λh=>gR q [4] [] zo [] (c1 (B0 1 Ap (0:Int))) (Qc (⟨zo,[],[]⟩:St) (tS h (ee (Lm (H6 bW (show Le Γ _ Q64 from Le.trans (Bi (st':=⟨zo,[],[]⟩) [4] [] q) (Le.trans (Rm (t:=4) (nm:=6004) (sz':=1) (λi=>Ap (([]:Ar).getD i 0)) 3 rfl rfl (.inl ⟨rfl,rfl⟩) (λh_=>absurd h_ (by decide))) (Bi (st':=Q64) [4] [6004] q))))))))) λh=>tB h λx4 y4 h=>gR q [1,2,5,6] J5 [(17,(AV.list 1 Ap 0 ([(-2:Int)]:Ar) .exact))] [⟨[],[(20000,21)],(.vsl 20000 x4.length),[(Z4 20000 x4)],[],[]⟩] (c2 (Bp 1 Ap (0:Int) ([(-2:Int)]:Ar)) (Vx y4)) (tC h λc5_ h=>tU q W7 J5 (c2 c5_ (Eq.refl x4.length)) (gLe (Le.trans (Sr 21 (show ∀ k_,k_<x4.length->AVleL ((λi_=>AV.eraseAll xB ((Fc (λi=>Ap (x4.getD i 0)) v1.toNat 0 [(.int .i64 (-1:Int))]) i_)) k_) ((λi=>Ap ((x4.set v1.toNat (-1:Int)).getD i 0)) k_) from(Bh (C8 ..).symm (λk_ hk_=>(Bg (AV.eraseAll xB) ((Fu (λ_ _=>rfl) (Hv c5_) rfl) k_ hk_)).trans rfl)))) (Sa (λ(k_:Nat) u=>(Cl u [(6,(.vsl 21 k_))] [(21,.arr 1 3 k_ (λi=>Ap ((x4.set v1.toNat (-1:Int)).getD i 0)))])) (show x4.length=(x4.set v1.toNat (-1:Int)).length from(C8 ..).symm))) (Af q KQ J5 (tC h λc6_ h=>gR q FA J5 [(26,(AV.list 1 Ap 0 (x3.drop (1:Int).toNat) .none))] [] (c2 c6_ (show(AVle (.slice 1 (x3.length-(1:Int).toNat) (λi=>Ap (x3.getD ((1:Int).toNat+i) 0)) .none) (AV.list 1 Ap 0 (x3.drop (1:Int).toNat) .none)) from ir)) (tL q h FA J5 (λu (b7,i8,l9)=>(Cl u [(6,(.vsl 21 l9.length)),(7,(.bool b7)),(28,(Z5 i8))] [(Z4 21 l9)])) (λu (b10,l11)=>aG Γ (.exit 0) (Ni KQ J5 u [(6,(.vsl 21 l11.length)),(7,(.bool b10))] [(Z4 21 l11)])) (λ⟨b7,i8,l9⟩ y h=>Af q qm J5 (gC h (λh=>tB h λx19 y19 h=>gJ y19 (λ(b12,l13)=>aG Γ .normal (⟨[Uk,(5,(V8 x3 13)),(6,(.vsl 21 l13.length)),(7,(.bool b12)),(26,(AV.list 1 Ap 0 (x3.drop (1:Int).toNat) .none)),(27,(.int .i64 ((x3.drop (1:Int).toNat).length:Int))),(28,(Z5 i8))],[(Pu 56 (Q62 v18)),(Yt 13 x3.length),(Z4 21 l13)],[]⟩:St)) (λy h=>tV q qn J5 h λh=>tC h λc15_ h=>tB h λx16 y16 h=>tT q qj J5 [⟨[],[],(Z5 x16),[],[21],[]⟩] (c4 c15_ (BF y16) (show(EG []) from trivial) (Eq.refl l9.length)) (tC h λc17_ h=>tU q qg J5 (c2 c17_ (Eq.refl l9.length)) (gC h (λh=>tC h λc18_ h=>tU q FA J5 (c2 c18_ (Eq.refl l9.length)) (tS h (gK (Bd (Le.trans (Le.trans (Sr 21 (show ∀ k_,k_<l9.length->AVleL ((λi_=>AV.eraseAll xB ((Fc (λi=>Ap (l9.getD i 0)) (zl x3 i8).toNat 0 [(Z5 x16)]) i_)) k_) ((λi=>Ap ((l9.set (zl x3 i8).toNat x16).getD i 0)) k_) from(Bh (C8 ..).symm (λk_ hk_=>(Bg (AV.eraseAll xB) ((Fu (λ_ _=>rfl) (Hv c18_) rfl) k_ hk_)).trans rfl)))) (Sa (λ(k_:Nat) u=>(Cl u [(6,(.vsl 21 k_))] [(21,.arr 1 3 k_ (λi=>Ap ((l9.set (zl x3 i8).toNat x16).getD i 0)))])) (show l9.length=(l9.set (zl x3 i8).toNat x16).length from(C8 ..).symm))) Iq))))) λh=>tS h (gK (Bd (Bi FA J5 q)))))) (match x19,h with|⟨b12,l13⟩,h=>gA (Af q FA J5 (tN h)))) λh=>tS h (gO (Bd (Bi KQ J5 q))))) λx21 h=>(match x21,h with|⟨b10,l11⟩,h=>gA (Af q [2,5,6,50] J5 (gC h (λh=>tS h (fg (Bi W7 J5 q))) λh=>Af q [4] [21] (Qc (⟨[(4,(.vsl 21 l11.length))],[(Z4 21 l11)],[]⟩:St) (tS h (ee (Lm (H6 [(21,20000)] (Le.trans (le_freeze (nm:=21) (sz:=1) (n:=l11.length) (e:=3) (f:=(λi=>Ap (l11.getD i 0))) (g:=(λi=>Ap (l11.getD i 0))) rfl ⟨rfl,trivial⟩ (λ_ _=>rfl) (by rw[hΓ];rfl)) (Gt (st':=⟨[(4,(V8 l11 21))],[(Yt 21 l11.length)],[]⟩) (by kernel_rfl))))))))))))))))))) (λ⟨l1,l2⟩ y h=>Af q KQ J5 (tC h λc23_ h=>gR q FA J5 [(26,(AV.list 1 Ap 0 (l1.drop (1:Int).toNat) .none))] [] (c2 c23_ (show(AVle (.slice 1 (l1.length-(1:Int).toNat) (λi=>Ap (l1.getD ((1:Int).toNat+i) 0)) .none) (AV.list 1 Ap 0 (l1.drop (1:Int).toNat) .none)) from ir)) (tL q h FA J5 (λu (b24,i25,l26)=>(Cl u [(6,(.vsl 21 l26.length)),(7,(.bool b24)),(28,(Z5 i25))] [(Z4 21 l26)])) (λu (b27,l28)=>aG Γ (.exit 0) (Ni KQ J5 u [(6,(.vsl 21 l28.length)),(7,(.bool b27))] [(Z4 21 l28)])) (λ⟨b24,i25,l26⟩ y h=>Af q qm J5 (gC h (λh=>tB h λx36 y36 h=>gJ y36 (λ(b29,l30)=>aG Γ .normal (⟨[Uk,(5,(V8 l1 13)),(6,(.vsl 21 l30.length)),(7,(.bool b29)),(26,(AV.list 1 Ap 0 (l1.drop (1:Int).toNat) .none)),(27,(.int .i64 ((l1.drop (1:Int).toNat).length:Int))),(28,(Z5 i25))],[(Pu 56 (Q62 v18)),(Yt 13 l1.length),(Z4 21 l30)],[]⟩:St)) (λy h=>tV q qn J5 h λh=>tC h λc32_ h=>tB h λx33 y33 h=>tT q qj J5 [⟨[],[],(Z5 x33),[],[21],[]⟩] (c4 c32_ (BF y33) (show(EG []) from trivial) (Eq.refl l26.length)) (tC h λc34_ h=>tU q qg J5 (c2 c34_ (Eq.refl l26.length)) (gC h (λh=>tC h λc35_ h=>tU q FA J5 (c2 c35_ (Eq.refl l26.length)) (tS h (gK (Bd (Le.trans (Le.trans (Sr 21 (show ∀ k_,k_<l26.length->AVleL ((λi_=>AV.eraseAll xB ((Fc (λi=>Ap (l26.getD i 0)) (zk l1 i25).toNat 0 [(Z5 x33)]) i_)) k_) ((λi=>Ap ((l26.set (zk l1 i25).toNat x33).getD i 0)) k_) from(Bh (C8 ..).symm (λk_ hk_=>(Bg (AV.eraseAll xB) ((Fu (λ_ _=>rfl) (Hv c35_) rfl) k_ hk_)).trans rfl)))) (Sa (λ(k_:Nat) u=>(Cl u [(6,(.vsl 21 k_))] [(21,.arr 1 3 k_ (λi=>Ap ((l26.set (zk l1 i25).toNat x33).getD i 0)))])) (show l26.length=(l26.set (zk l1 i25).toNat x33).length from(C8 ..).symm))) Iq))))) λh=>tS h (gK (Bd (Bi FA J5 q)))))) (match x36,h with|⟨b29,l30⟩,h=>gA (Af q FA J5 (tN h)))) λh=>tS h (gO (Bd (Bi KQ J5 q))))) λx38 h=>(match x38,h with|⟨b27,l28⟩,h=>gA (Af q [2,5,6,50] J5 (gC h (λh=>tS h (fg (Bi W7 J5 q))) λh=>Af q [4] [21] (Qc (⟨[(4,(.vsl 21 l28.length))],[(Z4 21 l28)],[]⟩:St) (tS h (ee (Lm (H6 [(21,20000)] (Le.trans (le_freeze (nm:=21) (sz:=1) (n:=l28.length) (e:=3) (f:=(λi=>Ap (l28.getD i 0))) (g:=(λi=>Ap (l28.getD i 0))) rfl ⟨rfl,trivial⟩ (λ_ _=>rfl) (by rw[hΓ];rfl)) (Gt (st':=⟨[(4,(V8 l28 21))],[(Yt 21 l28.length)],[]⟩) (by kernel_rfl)))))))))))))) (O3 (λst' hk=>tS h (gK hk))))
def Pq(aaA:List Ba)(aaC:Ar):Int->Option (LR Int (Unit ⊕ Bool)):=
 λ(i1:Int)=>(bif (decide (i1<(aaA.length:Int))) then(A0 (A1 i1 aaA.length) ((G2 ((aaA.getD i1.toNat default).From) aaC).bind λx3=>(bif (bif (!x3) then true else((((aaA.getD i1.toNat default).Args).length:Int)!=(aaC.length:Int))) then(some (.done (.inr false))) else(some (.next (w64 (i1+1))))))) else(some (.done (.inl ()))))
def MW(Γ:H5)(aaA:List Ba)(aaC:Ar)(r:Bool):Exit->St->Prop:=fK Tryz.prog Γ Tryz.f153.results.toList [] (.bool r) []
def Pe(aaA:List Ba)(aaC:Ar):Option Bool:=
 ((Ac (Pq aaA aaC) (0:Int)).bind (λx4=>(match x4 with|(.inl _)=>(some true)|(.inr r6)=>(some r6))))
theorem JP(h:Pe v5 v2=some v3):sP 153 [(xF v5),(Z6 v2)] [] (.bool v3) []:=
 sG Tryz.func153 λΓ q=>tW q Gn [] Nc [] (tL q h Nc [] (λu i1=>(Cl u [(9,(Z5 i1))] [])) (λu x_=>match x_ with|(.inl _)=>aG Γ (.exit 0) (⟨[],[],[]⟩:St)|(.inr r_)=>aR (MW Γ v5 v2 r_)) (λi1 y h=>Af q MS [] (gC h (λh=>tV q MT [6] h λh=>tB h λx3 y3 h=>tT q [1,7,8,9,25] [] [(Z2 x3)] (ci (Pz y3) (wT ((!x3)==false) (c1 (Ng (!x3))))) (gC h (λh=>Af q [4] [] (tS h (gO (Lm (H6 [] (Le.refl _ _)))))) λh=>Af q Nc [] (tN h))) λh=>tS h (gO (Bd (Bi [] [] q))))) λx4 h=>(match x4,h with | .inl _,h=>gA (Af q [4] [] (tS h (Cc []))) | .inr r6,h=>O3 (λst' hk=>tS h (gK hk))))
def Q65(aK:Kb):=(bif (aK.Kind==0) then true else(aK.Kind==2))
def Pd(aK:Kb):Option Bool:=
 (some (bif (bif (aK.Kind==0) then true else(aK.Kind==2)) then true else(aK.Arg==0)))
theorem JO(h:Pd v8=some v3):sP 154 [(.agg (jJ v8))] [] (.bool v3) []:=
 sG Tryz.func154 λΓ q=>Af q [1] [1] (tU q [2] [] (M4 ((v8.Kind==0)==false) (ci (Ng (v8.Kind==0)) (M4 ((Q65 v8)==false) (c1 (Ng (Q65 v8)))))) (tS h (Cc [])))
def Du(a3:TFunc)(a5:Int)(aA:List Be)(x1:kB)(x3:Ar):Int->Option (LR Int (Unit ⊕ (Int×TFunc×Int×Ar×List Be))):=
 λ(i4:Int)=>(bif (decide (i4<(a3.Blocks.length:Int))) then(A0 (A1 i4 a3.Blocks.length) (A0 (A1 i4 x1.1.Pred.length) ((Pe ((a3.Blocks.getD i4.toNat default).Phis) (x1.1.Pred.getD i4.toNat [])).bind λx7=>((bif ((!x7)==false) then Pd (⟨(a3.Blocks.getD i4.toNat default).End.Kind,(a3.Blocks.getD i4.toNat default).End.Arg,(a3.Blocks.getD i4.toNat default).End.To⟩:Kb) else some false).bind λx8=>(bif (bif (!x7) then true else(!x8)) then(some (.done (.inr ((5:Int),a3,a5,x3,aA)))) else(some (.next (w64 (i4+1))))))))) else(some (.done (.inl ()))))
def Xa(Γ:H5)(a3:TFunc)(a5:Int)(a7:Ar)(aA:List Be)(r:mR):Exit->St->Prop:=fK Tryz.prog Γ Tryz.f105.results.toList (Z3 a3.Params a3.Ret a3.Blocks a5 a7 aA aA.length) (Z5 r.1) (Z3 r.2.1.Params r.2.1.Ret r.2.1.Blocks r.2.2.1 r.2.2.2.1 r.2.2.2.2 r.2.2.2.2.length)
def Q68(x1:kB):=((x1.2 !=0)==false)
def Q67(x3:Ar)(a3:TFunc)(a5:Int)(aA:List Be):List OJ:=[(Yt 31 x3.length),(30000,.row 102 [(Z6 a3.Params),(Z5 a3.Ret),(UF a3.Blocks),(Z5 a5),(Z6 x3),.nilm,(AV.list 5 Ol default aA (.own 37006))]),(Ll 37006 211 aA.length)]
def zq(x3:Ar)(a3:TFunc)(a5:Int)(aA:List Be):List OJ:=[(Yt 31 x3.length),(30000,.row 102 [(Z6 a3.Params),(Z5 a3.Ret),(UF a3.Blocks),(Z5 a5),(V8 x3 31),.nilm,(AV.list 5 Ol default aA (.own 37006))]),(Ll 37006 211 aA.length)]
def I5(a3:TFunc)(a5:Int)(a7:Ar)(aA:List Be):Option mR:=
 ((Tw a3).bind λx1=>((bif ((x1.2 !=0)==false) then Lb x1.1 (0:Int) else some []).bind λx2=>(bif (bif (x1.2 !=0) then true else(decide ((x2.length:Int)<(a3.Blocks.length:Int)))) then(some ((5:Int),a3,a5,a7,aA)) else((Tv x1.1 (0:Int)).bind λx3=>((Ac (Du a3 a5 aA x1 x3) (0:Int)).bind (λx9=>(match x9 with|(.inl _)=>(some ((0:Int),a3,a5,x3,aA))|(.inr r11)=>(some r11))))))))
theorem Wk(h:I5 v0 v1 v2 v12=some v13):sP 105 OR (Z3 v0.Params v0.Ret v0.Blocks v1 v2 v12 v12.length) (Z5 v13.1) (Z3 v13.2.1.Params v13.2.1.Ret v13.2.1.Blocks v13.2.2.1 v13.2.2.2.1 v13.2.2.2.2 v13.2.2.2.2.length):=
 sG Tryz.func105 λΓ q=>Af q [0] Iy (tB h λx1 y1 h=>tT q S9 SX [(vm x1.1 x1.2)] (c1 (LQ y1)) (tB h λx2 y2 h=>tT q [0,3,28] SX [⟨[],[],(Z6 x2),[],[],[]⟩] (ed (gI (Q68 x1)) (show((Q68 x1)=true->(sP 151 [(.agg (Us x1.1)),L9] [] (Z6 x2) [])) from(λhg=>(Spec.drop (BG (Bq hg y2))))) (gI8 (Q68 x1) (c1 (Ng (x1.2 !=0))))) (gC h (λh=>Af q [2] Iy (tS h (Cc Zb))) λh=>tB h λx3 y3 h=>tT q Rj YJ [(vk 31 x3 x3.length)] (c1 (dY y3)) (Af q iT YJ (tL q h iT YJ (λu i4=>(Cl u [(40,(Z5 i4))] [])) (λu x_=>match x_ with|(.inl _)=>aG Γ (.exit 0) (Ni [] YM u [] [])|(.inr r_)=>aR (Xa Γ v0 v1 v2 v12 r_)) (λi4 y h=>Af q [3,38,39,40,41] YJ (gC h (λh=>tV q [3,5,6,38,39,40] [3,6,31,30000,37006] h λh=>tC h λc6_ h=>tB h λx7 y7 h=>tB h λx8 y8 h=>tT q [3,38,39,40,59] YJ [(Z2 x7),(Z2 x8)] (ed c6_ (JP y7) (M4 ((!x7)==false) (c3 (λ(hg:((!x7)==false)=true)=>(JO (Bq hg y8))) (gI ((!x7)==false)) (Ng (!x7))))) (gC h (λh=>Af q [2] YM (Qc (⟨[(2,(.int .i64 (5:Int)))],(zq x3 v0 v1 v12),[]⟩:St) (tS h (gO (Lm (H6 Zb (show Le Γ _ (⟨[(2,(.int .i64 (5:Int)))],(Q67 x3 v0 v1 v12),[]⟩:St) from Le.trans (Bi (st':=⟨[(2,(.int .i64 (5:Int)))],(zq x3 v0 v1 v12),[]⟩) [2] YM q) (I8 (.cons (AVle.refl _) .nil) (.same (.row (.cons (AVle.refl _) (.cons (AVle.refl _) (.cons (AVle.refl _) (.cons (AVle.refl _) (.cons AVle.untag (.cons (AVle.refl _) (.cons (AVle.refl _) .nil))))))) (.same .nil))))))))))) λh=>Af q iT YJ (tN h))) λh=>tS h (gO (Bd (Bi [] YM q))))) λx9 h=>(match x9,h with | .inl _,h=>gA (Af q [2] YM (Qc (⟨[(2,L9)],(zq x3 v0 v1 v12),[]⟩:St) (tS h (gK (e:=.ret) (H6 Zb (show Le Γ _ (⟨[(2,L9)],(Q67 x3 v0 v1 v12),[]⟩:St) from Le.trans (Bi (st':=⟨[(2,L9)],(zq x3 v0 v1 v12),[]⟩) [2] YM q) (I8 (.cons (AVle.refl _) .nil) (.same (.row (.cons (AVle.refl _) (.cons (AVle.refl _) (.cons (AVle.refl _) (.cons (AVle.refl _) (.cons AVle.untag (.cons (AVle.refl _) (.cons (AVle.refl _) .nil))))))) (.same .nil)))))))))) | .inr r11,h=>O3 (λst' hk=>tS h (gK hk))))))))
def Ld(aE:Int):Option Bool:=
 (Option.bind (α:=Bool) (bif (aE==1) then(some (aE==1)) else(bif (aE==8) then(some (aE==8)) else(bif (aE==16) then(some (aE==16)) else(bif (aE==32) then(some (aE==32)) else(some (aE==64)))))) (λx2=>(bif x2 then(some true) else(some false))))
theorem N0(h:Ld v1=some v3):sP 156 [(Z5 v1)] [] (.bool v3) []:=
 sG Tryz.func156 λΓ q=>tW q [0] [] [3] [] (tB h λx2 y2 h=>gJ y2 (λb1=>aG Γ .normal (⟨[(4,(.bool b1))],[],[]⟩:St)) (λy h=>Af q Yp [] (gC h (λh=>tS h (gK (Bd (Bi [4] [] q)))) λh=>Af q Yp [] (gC h (λh=>tS h (gK (Bd (Bi [4] [] q)))) λh=>Af q Yp [] (gC h (λh=>tS h (gK (Bd (Bi [4] [] q)))) λh=>Af q Yp [] (gC h (λh=>tS h (gK (Bd (Bi [4] [] q)))) λh=>Af q [4] [] (tS h (gK (Bd Iq)))))))) (gA (gC h (λh=>Af q [2] [] (tS h (Cc []))) λh=>Af q [2] [] (tS h (Cc [])))))
def Pp(a9:Ar):Int->Option (LR Int (Unit ⊕ Bool)):=
 λ(i1:Int)=>(bif (decide (i1<(a9.length:Int))) then(A0 (A1 i1 a9.length) ((Ld (a9.getD i1.toNat 0)).bind λx3=>(bif (!x3) then(some (.done (.inr false))) else(some (.next (w64 (i1+1))))))) else(some (.done (.inl ()))))
def MV(Γ:H5)(a9:Ar)(r:Bool):Exit->St->Prop:=fK Tryz.prog Γ Tryz.f155.results.toList [] (.bool r) []
def Pc(a9:Ar):Option Bool:=
 ((Ac (Pp a9) (0:Int)).bind (λx4=>(match x4 with|(.inl _)=>(some true)|(.inr r6)=>(some r6))))
theorem JN(h:Pc v2=some v3):sP 155 [(Z6 v2),(.clo 156 [] [])] [] (.bool v3) []:=
 sG Tryz.func155 λΓ q=>tW q Gn [] Nc [] (tL q h Nc [] (λu i1=>(Cl u [(9,(Z5 i1))] [])) (λu x_=>match x_ with|(.inl _)=>aG Γ (.exit 0) (⟨[],[],[]⟩:St)|(.inr r_)=>aR (MV Γ v2 r_)) (λi1 y h=>Af q MS [] (gC h (λh=>tV q MT [] h λh=>tB h λx3 y3 h=>tT q UC [] [(Z2 x3)] (c1 (N0 y3)) (gC h (λh=>Af q [4] [] (tS h (gO (Lm (H6 [] (Le.refl _ _)))))) λh=>Af q Nc [] (tN h))) λh=>tS h (gO (Bd (Bi [] [] q))))) λx4 h=>(match x4,h with | .inl _,h=>gA (Af q [4] [] (tS h (Cc []))) | .inr r6,h=>O3 (λst' hk=>tS h (gK hk))))
def Rp(aV:Ba):Option Bool:=
 ((Ld aV.Bits).bind λx1=>(some x1))
theorem HP(h:Rp v4=some v3):sP 200 [(.agg (Eo v4))] [] (.bool v3) []:=
 sG Tryz.func200 λΓ q=>Af q [1] [1] (tB h λx1 y1 h=>tT q [2] [] [(Z2 x1)] (c1 (N0 y1)) (tS h (Cc [])))
def Me(a9:List Ba):Int->Option (LR Int (Unit ⊕ Bool)):=
 λ(i1:Int)=>(bif (decide (i1<(a9.length:Int))) then(A0 (A1 i1 a9.length) ((Rp (a9.getD i1.toNat default)).bind λx3=>(bif (!x3) then(some (.done (.inr false))) else(some (.next (w64 (i1+1))))))) else(some (.done (.inl ()))))
def DW(Γ:H5)(a9:List Ba)(r:Bool):Exit->St->Prop:=fK Tryz.prog Γ Tryz.f199.results.toList [] (.bool r) []
def Ln(a9:List Ba):Option Bool:=
 ((Ac (Me a9) (0:Int)).bind (λx4=>(match x4 with|(.inl _)=>(some true)|(.inr r6)=>(some r6))))
theorem BD(h:Ln v5=some v3):sP 199 [(xF v5),(.clo 200 [] [])] [] (.bool v3) []:=
 sG Tryz.func199 λΓ q=>tW q Gn [] Nc [] (tL q h Nc [] (λu i1=>(Cl u [(9,(Z5 i1))] [])) (λu x_=>match x_ with|(.inl _)=>aG Γ (.exit 0) (⟨[],[],[]⟩:St)|(.inr r_)=>aR (DW Γ v5 r_)) (λi1 y h=>Af q MS [] (gC h (λh=>tV q MT [6] h λh=>tB h λx3 y3 h=>tT q UC [] [(Z2 x3)] (c1 (HP y3)) (gC h (λh=>Af q [4] [] (tS h (gO (Lm (H6 [] (Le.refl _ _)))))) λh=>Af q Nc [] (tN h))) λh=>tS h (gO (Bd (Bi [] [] q))))) λx4 h=>(match x4,h with | .inl _,h=>gA (Af q [4] [] (tS h (Cc []))) | .inr r6,h=>O3 (λst' hk=>tS h (gK hk))))
def O4(aX:Int):Option Bool:=
 (some (bif (decide ((0:Int)<=aX)) then(decide (aX<=22)) else false))
theorem BJ(h:O4 v1=some v3):sP 145 [(Z5 v1)] [] (.bool v3) []:=
 sG Tryz.func145 λΓ q=>Af q [0] [] (tU q [2] [] (c2 (gI ((decide ((0:Int)<=v1))==true)) (Nh (decide ((0:Int)<=v1)))) (tS h (Cc [])))
def Q69(x5:Bool)(aE:Int):=(bif x5 then(decide ((8:Int)<=aE)) else false)
def Td(aE:Int)(aN:Int):Option Bool:=
 (bif (aN==1) then((Ld aE).bind λx1=>(some x1)) else(Option.bind (α:=Bool) (bif (aN==2) then(some (aN==2)) else(bif (aN==4) then(some (aN==4)) else(bif (aN==8) then(some (aN==8)) else(some (aN==16))))) (λx3=>(bif x3 then((Ld aE).bind λx5=>(some (bif (bif x5 then(decide ((8:Int)<=aE)) else false) then(decide (((w64 (aE*aN)):Int)<=128)) else false))) else(some false)))))
theorem VH(h:Td v1 v11=some v3):sP 277 [(Z5 v1),(Z5 v11)] [] (.bool v3) []:=
 sG Tryz.func277 λΓ q=>tW q Gn [] Nd [] (Af q W6 [] (gC h (λh=>tB h λx1 y1 h=>tT q [4] [] [(Z2 x1)] (c1 (N0 y1)) (tS h (Cc []))) λh=>tB h λx3 y3 h=>gJ y3 (λb2=>aG Γ .normal (⟨[(0,(Z5 v1)),(1,(Z5 v11)),(10,(.bool b2))],[],[]⟩:St)) (λy h=>Af q [0,1,5,10] [] (gC h (λh=>tS h (gK (Bd (Bi Yo [] q)))) λh=>Af q [0,1,5,10] [] (gC h (λh=>tS h (gK (Bd (Bi Yo [] q)))) λh=>Af q [0,1,5,10] [] (gC h (λh=>tS h (gK (Bd (Bi Yo [] q)))) λh=>Af q Yo [] (tS h (gK (Bd Iq))))))) (gA (gC h (λh=>tB h λx5 y5 h=>tT q [4] [] [(Z2 x5)] (ZM (N0 y5) (gI (x5==true)) (Nh x5) (Vm ((Q69 x5 v1)==true) (c1 (Nh (Q69 x5 v1))))) (tS h (Cc []))) λh=>Af q [4] [] (tS h (Cc []))))))
def zr(a1:B2):List OJ:=[(yP a1.Kind a1.Bits a1.Lanes a1.Dst a1.Args a1.Imm)]
def Of(a1:B2):Option Bool:=
 (Option.bind (α:=Bool) (bif (a1.Kind==16) then(some (a1.Kind==16)) else(some (a1.Kind==17))) (λx2=>(bif x2 then(some (decide ((8:Int)<=a1.Bits))) else(Option.bind (α:=Bool) (bif (a1.Kind==18) then(some (a1.Kind==18)) else(some (a1.Kind==19))) (λx5=>(bif x5 then(some (bif (decide ((8:Int)<=a1.Bits)) then(a1.Lanes==1) else false)) else(Option.bind (α:=Bool) (bif (a1.Kind==4) then(some (a1.Kind==4)) else(bif (a1.Kind==10) then(some (a1.Kind==10)) else(bif (a1.Kind==11) then(some (a1.Kind==11)) else(bif (a1.Kind==12) then(some (a1.Kind==12)) else(bif (a1.Kind==14) then(some (a1.Kind==14)) else(bif (a1.Kind==15) then(some (a1.Kind==15)) else(some (a1.Kind==20)))))))) (λx8=>(bif x8 then(some (a1.Lanes==1)) else(Option.bind (α:=Bool) (bif (a1.Kind==21) then(some (a1.Kind==21)) else(some (a1.Kind==22))) (λx11=>(bif x11 then(some (decide ((1:Int)<a1.Lanes))) else(some true)))))))))))))
theorem HR(h:Of v6=some v3):sP 278 (fI v6) [] (.bool v3) []:=
 sG Tryz.func278 λΓ q=>tW q [1] [1] P7 [1] (tB h λx2 y2 h=>gJ y2 (λb1=>aG Γ .normal (⟨[CT,(4,(Z5 v6.Kind)),(5,(.bool b1))],(zr v6),[]⟩:St)) (λy h=>Af q [1,4,5] [1] (gC h (λh=>tS h (gK (Bd Iq))) λh=>Af q [1,4,5] [1] (tS h (gK (Bd Iq))))) (gA (gC h (λh=>Af q [2] [] (tS h (Cc []))) λh=>tB h λx5 y5 h=>gJ y5 (λb4=>aG Γ .normal (⟨[CT,(4,(Z5 v6.Kind)),(11,(.bool b4))],(zr v6),[]⟩:St)) (λy h=>Af q [1,4,11] [1] (gC h (λh=>tS h (gK (Bd Iq))) λh=>Af q [1,4,11] [1] (tS h (gK (Bd Iq))))) (gA (gC h (λh=>tU q [2] [] (M4 ((decide ((8:Int)<=v6.Bits))==true) (c1 (Nh (decide ((8:Int)<=v6.Bits))))) (tS h (Cc []))) λh=>tB h λx8 y8 h=>gJ y8 (λb7=>aG Γ .normal (⟨[CT,(4,(Z5 v6.Kind)),(22,(.bool b7))],(zr v6),[]⟩:St)) (λy h=>Af q GC [1] (gC h (λh=>tS h (gK (Bd Iq))) λh=>Af q GC [1] (gC h (λh=>tS h (gK (Bd Iq))) λh=>Af q GC [1] (gC h (λh=>tS h (gK (Bd Iq))) λh=>Af q GC [1] (gC h (λh=>tS h (gK (Bd Iq))) λh=>Af q GC [1] (gC h (λh=>tS h (gK (Bd Iq))) λh=>Af q GC [1] (gC h (λh=>tS h (gK (Bd Iq))) λh=>Af q GC [1] (tS h (gK (Bd Iq)))))))))) (gA (gC h (λh=>Af q [2] [] (tS h (Cc []))) λh=>tB h λx11 y11 h=>gJ y11 (λb10=>aG Γ .normal (⟨[CT,(33,(.bool b10))],(zr v6),[]⟩:St)) (λy h=>Af q [1,4,33] [1] (gC h (λh=>tS h (gK (Bd (Bi [1,33] [1] q)))) λh=>Af q [1,33] [1] (tS h (gK (Bd Iq))))) (gA (gC h (λh=>Af q [2] [] (tS h (Cc []))) λh=>Af q [2] [] (tS h (Cc [])))))))))))
def Xw(aD:Int)(aE:Int):Option Int:=
 ((Ld aE).bind λx1=>(bif (!x1) then(some (0:Int)) else(A0 (0<=(w64 ((64:Int)-aE))) (A0 (0<=(w64 ((64:Int)-aE))) (some (Wv .u64 (RY .u64 aD (w64 ((64:Int)-aE))) (w64 ((64:Int)-aE))))))))
theorem da(h:Xw v1 v11=some v20):sP 121 [(.int .u64 v1),(Z5 v11)] [] (.int .u64 v20) []:=
 sG Tryz.func121 λΓ q=>Af q Gn [] (tB h λx1 y1 h=>tT q [0,1,7] [] [(Z2 x1)] (c1 (N0 y1)) (gC h (λh=>Af q [4] [] (tS h (Cc []))) λh=>tC h λc2_ h=>tC h λc3_ h=>tU q [4] [] (c2 c2_ c3_) (tS h (Cc []))))
def Nu(aaD:Int):Option Bool:=
 ((bif ((decide (aaD<=64))==true) then Ld (w64 aaD) else some false).bind λx1=>(some (bif (decide (aaD<=64)) then x1 else false)))
theorem Y3(h:Nu v1=some v3):sP 291 [(.int .u64 v1)] [] (.bool v3) []:=
 sG Tryz.func291 λΓ q=>Af q [0] [] (tB h λx1 y1 h=>tT q [2] [] [(Z2 x1)] (M4 ((decide (v1<=64))==true) (c2 (λ(hg:((decide (v1<=64))==true)=true)=>(N0 (Bq hg y1))) (Nh (decide (v1<=64))))) (tS h (Cc [])))
def Qv(a1:B2):Option Bool:=
 (bif (a1.Kind==0) then((Xw a1.Imm a1.Bits).bind λx1=>(some (x1==a1.Imm))) else(bif (a1.Kind==14) then((Nu a1.Imm).bind λx2=>(some (bif x2 then(decide (a1.Imm<(Iu a1.Bits))) else false))) else(bif (a1.Kind==15) then((Nu a1.Imm).bind λx3=>(some (bif x3 then(decide (((Iu a1.Bits):Int)<a1.Imm)) else false))) else(bif (a1.Kind==22) then(some (decide (a1.Imm<(Iu a1.Lanes)))) else(some (a1.Imm==0))))))
theorem NH(h:Qv v6=some v3):sP 279 (fI v6) [] (.bool v3) []:=
 sG Tryz.func279 λΓ q=>tW q [1] [1] P7 [1] (Af q [1,4,5] [1] (gC h (λh=>tB h λx1 y1 h=>tT q [2] [] [⟨[],[],(.int .u64 x1),[],[],[]⟩] (c1 (da y1)) (tS h (Cc []))) λh=>Af q [1,4,15] [1] (gC h (λh=>tB h λx2 y2 h=>tT q [2] [] [(Z2 x2)] (ci (Y3 y2) (wT (x2==true) (c1 (Nh x2)))) (tS h (Cc []))) λh=>Af q [1,4,28] [1] (gC h (λh=>tB h λx3 y3 h=>tT q [2] [] [(Z2 x3)] (ci (Y3 y3) (wT (x3==true) (c1 (Nh x3)))) (tS h (Cc []))) λh=>Af q [1,41] [1] (gC h (λh=>Af q [2] [] (tS h (Cc []))) λh=>Af q [2] [] (tS h (Cc [])))))))
abbrev KD:=((Int×Int))
abbrev qZ:=(List (Int×Int))
def It(aaG:List KD):Option qZ:=
 (some aaG)
variable{v21:List KD}{v22:List KD}
theorem Jb(h:It v21=some v22):sP 282 [(Z7 v21)] [] (Z7 v22) []:=
 sG Tryz.func282 λΓ q=>gR q [0] [] [(2,yN)] [] (c1 (B0 2 Bo ((0:Int),(0:Int)))) (Af q [2] [] (tS h (Cc [])))
abbrev qa:=(Int×List (Int×Int))
abbrev zN:=(LR (Int×List (Int×Int)) (List (Int×Int)))
def Di :qa->Option zN:=
 λ((i7,l8):qa)=>(bif (decide (i7<(l8.length:Int))) then(A0 (0<=i7/\0+i7.toNat<=l8.length) (A0 (0<=i7/\0+i7.toNat<=l8.length) (some (.next ((w64 (i7+((Nat.min ((0+i7.toNat)-0) (l8.length-(0+i7.toNat))):Int))),(NT l8 (0+i7.toNat) (Nat.min ((0+i7.toNat)-0) (l8.length-(0+i7.toNat))) (λi=>l8.getD (0+i) ((0:Int),(0:Int))))))))) else(some (.done l8)))
def nL(x3:Gq):=(List.replicate (w64 x3.2).toNat ((0:Int),(0:Int)))
def Q73(x3:Gq)(aC:List KD):=(NT (nL x3) 0 (Nat.min aC.length ((nL x3).length-0)) (λi=>aC.getD i ((0:Int),(0:Int))))
def Q72(l8:List KD)(i7:Int):=(NT l8 (0+i7.toNat) (Nat.min ((0+i7.toNat)-0) (l8.length-(0+i7.toNat))) (λi=>l8.getD (0+i) ((0:Int),(0:Int))))
def Cd(aC:List KD)(aa8:Int):Option qZ:=
 (Option.bind (α:=Unit) (bif (decide (aa8<0)) then none else(some ())) (λx1=>(match x1 with|_=>((Ro (Iu (aC.length:Int)) (Iu aa8)).bind λx3=>(Option.bind (α:=Unit) (bif (bif (decide ((0:Int)<x3.1)) then true else(decide ((9223372036854775807:Int)<x3.2))) then none else(some ())) (λx4=>(match x4 with|_=>(A0 (0<=(w64 x3.2)/\(w64 x3.2)<=(w64 x3.2)/\(w64 x3.2)<=(room:Int)) ((Ac (S:=qa) (X:=List Gq) Di (((Nat.min aC.length ((List.replicate (w64 x3.2).toNat ((0:Int),(0:Int))).length-0)):Int),(NT (List.replicate (w64 x3.2).toNat ((0:Int),(0:Int))) 0 (Nat.min aC.length ((List.replicate (w64 x3.2).toNat ((0:Int),(0:Int))).length-0)) (λi=>aC.getD i ((0:Int),(0:Int)))))).bind (λx12=>(some x12)))))))))))
theorem Ss(h:Cd v21 v1=some v22):sP 283 [(Z7 v21),(Z5 v1)] [] (vl v22 20000) [(20000,.tok 2 90 v22.length)]:=
 sG Tryz.func283 λΓ q=>have hΓ:=q.own;gR q Gn [] [(4,yN)] [] (c1 (B0 2 Bo ((0:Int),(0:Int)))) (tB h λx1 y1 h=>gJ y1 (λ_=>aG Γ .normal (⟨[(0,(Z7 v21)),(1,(Z5 v1))],[],[]⟩:St)) (λy h=>Af q Yo [] (gC h (λh=>nomatch h) λh=>tS h (gK (Bd (Bi Gn [] q))))) (gA (tB h λx3 y3 h=>tT q [0,5,6] [] [⟨[],[],(.tuple (vq x3.1 x3.2)),[],[],[]⟩] (c1 (LO y3)) (tB h λx4 y4 h=>gJ y4 (λ_=>aG Γ .normal (⟨[(0,(Z7 v21)),(6,(.int .u64 x3.2))],[],[]⟩:St)) (λy h=>tU q [0,6,26] [] (c2 (gI ((decide ((0:Int)<x3.1))==false)) (Ng (decide ((0:Int)<x3.1)))) (gC h (λh=>nomatch h) λh=>tS h (gK (Bd (Bi [0,6] [] q))))) (gA (tV q [0,7] [30] h λh=>by exact gLe (Le.trans (Sr 30 (show ∀ k_,k_<((w64 x3.2).toNat)->AVleL ((λi_=>AV.eraseAll (λn_=>Bw n_ [30]) ((λ_=>[L9,L9]) i_)) k_) ((λi=>Bo ((nL x3).getD i ((0:Int),(0:Int)))) k_) from(λk hk=>M7 (e:=Bo) (d:=((0:Int),(0:Int))) (.cons (AVle.refl _) (.cons (AVle.refl _) .nil)) _ k (M8 hk)))) (Sa (λ(k_:Nat) u=>(Cl u [(Vl 30 k_)] [(30,.arr 2 90 k_ (λi=>Bo ((nL x3).getD i ((0:Int),(0:Int)))))])) (show(w64 x3.2).toNat=(nL x3).length from(N9 ..).symm))) (tU q [7,8] [30] (c1 (Eq.refl ((nL x3).length))) (gLe (Le.trans (Sr 30 (show ∀ k_,k_<((nL x3).length)->AVleL ((λi_=>AV.eraseAll (λn_=>Bw n_ [30]) ((WC (λi=>Bo ((nL x3).getD i ((0:Int),(0:Int)))) 0 (Nat.min v21.length ((nL x3).length-0)) (λi=>Bo (v21.getD i ((0:Int),(0:Int))))) i_)) k_) ((λi=>Bo ((Q73 x3 v21).getD i ((0:Int),(0:Int)))) k_) from(Bh (En ..) (λk_ hk_=>(Bg (AV.eraseAll (λn_=>Bw n_ [30])) ((NS (e:=Bo) (d:=((0:Int),(0:Int))) (l:=(nL x3)) (s:=(λi=>v21.getD i ((0:Int),(0:Int)))) (λ_ _=>rfl) (λ_ _=>rfl)) k_ hk_)).trans rfl)))) (Sa (λ(k_:Nat) u=>(Cl u [(Vl 30 k_)] [(30,.arr 2 90 k_ (λi=>Bo ((Q73 x3 v21).getD i ((0:Int),(0:Int)))))])) (show(nL x3).length=(Q73 x3 v21).length from(En ..)))) (tL q h [7,8] [30] (λu (i7,l8)=>(Cl u [(Vl 30 l8.length),(8,(Z5 i7))] (Z74 l8))) (λu l9=>aG Γ (.exit 0) (⟨[(Vl 30 l9.length)],(Z74 l9),[]⟩:St)) (λ⟨i7,l8⟩ y h=>Af q [7,8,37] [30] (gC h (λh=>tC h λc10_ h=>tC h λc11_ h=>tU q [7,8] [30] (c4 c10_ c11_ (Eq.refl l8.length) (Eq.refl l8.length)) (tS h (gN (Le.trans (Le.trans (Sr 30 (show ∀ k_,k_<l8.length->AVleL ((λi_=>AV.eraseAll (λn_=>Bw n_ [30]) ((WC (λi=>Bo (l8.getD i ((0:Int),(0:Int)))) (0+i7.toNat) (Nat.min ((0+i7.toNat)-0) (l8.length-(0+i7.toNat))) (λi=>(λi=>Bo (l8.getD i ((0:Int),(0:Int)))) (0+i))) i_)) k_) ((λi=>Bo ((Q72 l8 i7).getD i ((0:Int),(0:Int)))) k_) from(Bh (En ..) (λk_ hk_=>(Bg (AV.eraseAll (λn_=>Bw n_ [30])) ((NS (e:=Bo) (d:=((0:Int),(0:Int))) (l:=l8) (s:=(λi=>l8.getD (0+i) ((0:Int),(0:Int)))) (λ_ _=>rfl) (λ_ _=>rfl)) k_ hk_)).trans rfl)))) (Sa (λ(k_:Nat) u=>(Cl u [(Vl 30 k_)] [(30,.arr 2 90 k_ (λi=>Bo ((Q72 l8 i7).getD i ((0:Int),(0:Int)))))])) (show l8.length=(Q72 l8 i7).length from(En ..)))) Iq)))) λh=>tS h (gO (Bd (Bi [7] [30] q))))) λx12 h=>gA (Af q [4] [30] (Qc (⟨[(4,(.vsl 30 x12.length))],(Z74 x12),[]⟩:St) (tS h (gK (e:=.ret) (H6 [(30,20000)] (Le.trans (le_freeze (nm:=30) (sz:=2) (n:=x12.length) (e:=90) (f:=(λi=>Bo (x12.getD i ((0:Int),(0:Int))))) (g:=(λi=>Bo (x12.getD i ((0:Int),(0:Int))))) rfl ⟨rfl,trivial⟩ (λ_ _=>rfl) (by rw[hΓ];rfl)) (Gt (st':=⟨[(4,(vl x12 30))],[(30,.tok 2 90 x12.length)],[]⟩) (by kernel_rfl)))))))))))))))))
def Q74(a1:B2):List OJ:=[(yP a1.Kind a1.Bits a1.Lanes a1.Dst a1.Args a1.Imm),(3,.row 90 [ue,ue]),(4,.row 90 [(.int .i64 (64:Int)),ue]),(5,.row 90 [(Z5 a1.Bits),(Z5 a1.Lanes)]),(6,.row 90 [(Z5 a1.Bits),ue])]
def Qw(a1:B2):Option qZ:=
 (bif (a1.Kind==0) then((It ([]:List Gq)).bind λx1=>(some x1)) else(bif (a1.Kind==13) then((It ([((1:Int),(1:Int)),(a1.Bits,a1.Lanes),(a1.Bits,a1.Lanes)]:List Gq)).bind λx2=>(some x2)) else(Option.bind (α:=Bool) (bif (a1.Kind==14) then(some (a1.Kind==14)) else(some (a1.Kind==15))) (λx4=>(bif x4 then((It ([((w64 a1.Imm),(1:Int))]:List Gq)).bind λx6=>(some x6)) else(bif (a1.Kind==16) then((It ([((64:Int),(1:Int))]:List Gq)).bind λx7=>(some x7)) else(bif (a1.Kind==17) then((It ([((64:Int),(1:Int)),(a1.Bits,a1.Lanes)]:List Gq)).bind λx8=>(some x8)) else(Option.bind (α:=Bool) (bif (a1.Kind==18) then(some (a1.Kind==18)) else(some (a1.Kind==19))) (λx10=>(bif x10 then((It ([((1:Int),(1:Int)),((64:Int),(1:Int)),(a1.Bits,(1:Int))]:List Gq)).bind λx12=>(some x12)) else(bif (a1.Kind==20) then((It ([((1:Int),(1:Int)),(a1.Bits,(1:Int)),(a1.Bits,(1:Int)),(a1.Bits,(1:Int))]:List Gq)).bind λx13=>(some x13)) else(bif (a1.Kind==21) then((Cd ([(a1.Bits,(1:Int))]:List Gq) a1.Lanes).bind λx14=>((It x14).bind λx15=>(some x15))) else(bif (a1.Kind==22) then((It ([(a1.Bits,a1.Lanes)]:List Gq)).bind λx16=>(some x16)) else((It ([(a1.Bits,a1.Lanes),(a1.Bits,a1.Lanes)]:List Gq)).bind λx17=>(some x17)))))))))))))))
theorem EO(h:Qw v6=some v21):sP 244 (fI v6) [] (Z7 v21) []:=
 sG Tryz.func244 λΓ q=>gR q [1] [1] [(2,yN)] [] (c1 (B0 2 Bo ((0:Int),(0:Int)))) (tW q J8 J8 So So (tW q [1,3,4,5,6,18] So [1,3,4,5,6,18,19] So (gC h (λh=>tB h λx1 y1 h=>tT q [2] [] [(kx x1)] (c1 (show(sP 282 [Z0] [] (Z7 x1) []) from(Spec.args (.cons sM .nil) (Jb y1)))) (tS h (Cc []))) λh=>Af q [1,3,4,5,6,18,22] So (gC h (λh=>tB h λx2 y2 h=>gR q [2] [] [(27,(AV.list 2 Bo ((0:Int),(0:Int)) ([((1:Int),(1:Int)),(v6.Bits,v6.Lanes),(v6.Bits,v6.Lanes)]:List Gq) .exact))] [(kx x2)] (c2 (Bp 2 Bo ((0:Int),(0:Int)) ([((1:Int),(1:Int)),(v6.Bits,v6.Lanes),(v6.Bits,v6.Lanes)]:List Gq)) (Jb y2)) (tS h (Cc []))) λh=>tB h λx4 y4 h=>gJ y4 (λb3=>aG Γ .normal (⟨[CT,(3,(.ptr 3 0)),ZB,eZ,(6,(.ptr 6 0)),(18,(Z5 v6.Kind)),(29,(.bool b3))],(Q74 v6),[]⟩:St)) (λy h=>Af q [1,3,4,5,6,18,29] So (gC h (λh=>tS h (gK (Bd Iq))) λh=>Af q [1,3,4,5,6,18,29] So (tS h (gK (Bd Iq))))) (gA (gC h (λh=>tB h λx6 y6 h=>gR q [2] [] [(36,(AV.list 2 Bo ((0:Int),(0:Int)) ([((w64 v6.Imm),(1:Int))]:List Gq) .exact))] [(kx x6)] (c2 (Bp 2 Bo ((0:Int),(0:Int)) ([((w64 v6.Imm),(1:Int))]:List Gq)) (Jb y6)) (tS h (Cc []))) λh=>Af q [1,3,4,5,6,18,38] So (gC h (λh=>tB h λx7 y7 h=>gR q [2] [] [(41,(AV.list 2 Bo ((0:Int),(0:Int)) ([((64:Int),(1:Int))]:List Gq) .exact))] [(kx x7)] (c2 (Bp 2 Bo ((0:Int),(0:Int)) ([((64:Int),(1:Int))]:List Gq)) (Jb y7)) (tS h (Cc []))) λh=>Af q [1,3,4,5,6,18,43] So (gC h (λh=>tB h λx8 y8 h=>gR q [2] [] [(47,(AV.list 2 Bo ((0:Int),(0:Int)) ([((64:Int),(1:Int)),(v6.Bits,v6.Lanes)]:List Gq) .exact))] [(kx x8)] (c2 (Bp 2 Bo ((0:Int),(0:Int)) ([((64:Int),(1:Int)),(v6.Bits,v6.Lanes)]:List Gq)) (Jb y8)) (tS h (Cc []))) λh=>tB h λx10 y10 h=>gJ y10 (λb9=>aG Γ .normal (⟨[CT,(3,(.ptr 3 0)),ZB,eZ,(6,(.ptr 6 0)),(18,(Z5 v6.Kind)),(49,(.bool b9))],(Q74 v6),[]⟩:St)) (λy h=>Af q [1,3,4,5,6,18,49] So (gC h (λh=>tS h (gK (Bd Iq))) λh=>Af q [1,3,4,5,6,18,49] So (tS h (gK (Bd Iq))))) (gA (gC h (λh=>tB h λx12 y12 h=>gR q [2] [] [(55,(AV.list 2 Bo ((0:Int),(0:Int)) ([((1:Int),(1:Int)),((64:Int),(1:Int)),(v6.Bits,(1:Int))]:List Gq) .exact))] [(kx x12)] (c2 (Bp 2 Bo ((0:Int),(0:Int)) ([((1:Int),(1:Int)),((64:Int),(1:Int)),(v6.Bits,(1:Int))]:List Gq)) (Jb y12)) (tS h (Cc []))) λh=>Af q [1,3,5,6,18,57] IL (gC h (λh=>tB h λx13 y13 h=>gR q [2] [] [(63,(AV.list 2 Bo ((0:Int),(0:Int)) ([((1:Int),(1:Int)),(v6.Bits,(1:Int)),(v6.Bits,(1:Int)),(v6.Bits,(1:Int))]:List Gq) .exact))] [(kx x13)] (c2 (Bp 2 Bo ((0:Int),(0:Int)) ([((1:Int),(1:Int)),(v6.Bits,(1:Int)),(v6.Bits,(1:Int)),(v6.Bits,(1:Int))]:List Gq)) (Jb y13)) (tS h (Cc []))) λh=>Af q [1,5,6,18,65] [1,5,6] (gC h (λh=>tB h λx14 y14 h=>tB h λx15 y15 h=>gR q [2] [] [(68,(AV.list 2 Bo ((0:Int),(0:Int)) ([(v6.Bits,(1:Int))]:List Gq) .exact))] [⟨[],[(20000,71)],(vl x14 20000),[(20000,.tok 2 90 x14.length)],[],[]⟩,(kx x15)] (c3 (Bp 2 Bo ((0:Int),(0:Int)) ([(v6.Bits,(1:Int))]:List Gq)) (Ss y14) (Jb y15)) (tS h (Cc []))) λh=>Af q [5,73] [5] (gC h (λh=>tB h λx16 y16 h=>gR q [2] [] [(76,(AV.list 2 Bo ((0:Int),(0:Int)) ([(v6.Bits,v6.Lanes)]:List Gq) .exact))] [(kx x16)] (c2 (Bp 2 Bo ((0:Int),(0:Int)) ([(v6.Bits,v6.Lanes)]:List Gq)) (Jb y16)) (tS h (Cc []))) λh=>tB h λx17 y17 h=>gR q [2] [] [(80,(AV.list 2 Bo ((0:Int),(0:Int)) ([(v6.Bits,v6.Lanes),(v6.Bits,v6.Lanes)]:List Gq) .exact))] [(kx x17)] (c2 (Bp 2 Bo ((0:Int),(0:Int)) ([(v6.Bits,v6.Lanes),(v6.Bits,v6.Lanes)]:List Gq)) (Jb y17)) (tS h (Cc [])))))))))))))))
def Nt(aD:Int):Option Bool:=
 (some (bif (decide ((1:Int)<=aD)) then(decide (aD<=1023)) else false))
theorem Y2(h:Nt v1=some v3):sP 292 [(Z5 v1)] [] (.bool v3) []:=
 sG Tryz.func292 λΓ q=>Af q [0] [] (tU q [2] [] (c2 (gI ((decide ((1:Int)<=v1))==true)) (Nh (decide ((1:Int)<=v1)))) (tS h (Cc [])))
def Kl(a1:B2):Int->Option (LR Int (Unit ⊕ Bool)):=
 λ(i2:Int)=>(bif (decide (i2<(a1.Args.length:Int))) then(A0 (A1 i2 a1.Args.length) ((Nt (a1.Args.getD i2.toNat 0)).bind λx4=>(bif (!x4) then(some (.done (.inr false))) else(some (.next (w64 (i2+1))))))) else(some (.done (.inl ()))))
def OL(Γ:H5)(a1:B2)(r:Bool):Exit->St->Prop:=fK Tryz.prog Γ Tryz.f280.results.toList [] (.bool r) []
def Qs(a1:B2):Option Bool:=
 ((Qw a1).bind λx1=>(bif ((a1.Args.length:Int)!=(x1.length:Int)) then(some false) else((Ac (Kl a1) (0:Int)).bind (λx5=>(match x5 with|(.inl _)=>(some true)|(.inr r7)=>(some r7))))))
theorem NF(h:Qs v6=some v3):sP 280 (fI v6) [] (.bool v3) []:=
 sG Tryz.func280 λΓ q=>Af q [1] [1] (tB h λx1 y1 h=>tT q [1,11] [1] [(kx x1)] (c1 (EO y1)) (gC h (λh=>Af q [2] [] (tS h (Cc []))) λh=>Af q [13,14,15] [] (tL q h [13,14,15] [] (λu i2=>(Cl u [(15,(Z5 i2))] [])) (λu x_=>match x_ with|(.inl _)=>aG Γ (.exit 0) (⟨[],[],[]⟩:St)|(.inr r_)=>aR (OL Γ v6 r_)) (λi2 y h=>Af q [13,14,15,16] [] (gC h (λh=>tV q [4,13,14,15] [] h λh=>tB h λx4 y4 h=>tT q [13,14,15,21] [] [(Z2 x4)] (c1 (Y2 y4)) (gC h (λh=>Af q [2] [] (tS h (gO (Lm (H6 [] (Le.refl _ _)))))) λh=>Af q [13,14,15] [] (tN h))) λh=>tS h (gO (Bd (Bi [] [] q))))) λx5 h=>(match x5,h with | .inl _,h=>gA (Af q [2] [] (tS h (Cc []))) | .inr r7,h=>O3 (λst' hk=>tS h (gK hk))))))
def Q75(a1:B2):List OJ:=[(yP a1.Kind a1.Bits a1.Lanes a1.Dst a1.Args a1.Imm)]
def Qu(a1:B2):Option Gq:=
 (Option.bind (α:=Bool) (bif (a1.Kind==17) then(some (a1.Kind==17)) else(some (a1.Kind==19))) (λx2=>(bif x2 then(some ((0:Int),(0:Int))) else(Option.bind (α:=Bool) (bif (a1.Kind==10) then(some (a1.Kind==10)) else(bif (a1.Kind==11) then(some (a1.Kind==11)) else(some (a1.Kind==12)))) (λx5=>(bif x5 then(some ((1:Int),(1:Int))) else(bif (a1.Kind==22) then(some (a1.Bits,(1:Int))) else(some (a1.Bits,a1.Lanes)))))))))
theorem EN(h:Qu v6=some v19):sP 243 (fI v6) [] (.tuple [(Z5 v19.1),(Z5 v19.2)]) []:=
 sG Tryz.func243 λΓ q=>tW q [1] [1] [1,5] [1] (tB h λx2 y2 h=>gJ y2 (λb1=>aG Γ .normal (⟨[CT,(5,(Z5 v6.Kind)),(6,(.bool b1))],(Q75 v6),[]⟩:St)) (λy h=>Af q [1,5,6] [1] (gC h (λh=>tS h (gK (Bd Iq))) λh=>Af q [1,5,6] [1] (tS h (gK (Bd Iq))))) (gA (gC h (λh=>Af q E0 [] (tS h (Cc []))) λh=>tB h λx5 y5 h=>gJ y5 (λb4=>aG Γ .normal (⟨[CT,(5,(Z5 v6.Kind)),(9,(.bool b4))],(Q75 v6),[]⟩:St)) (λy h=>Af q [1,5,9] [1] (gC h (λh=>tS h (gK (Bd Iq))) λh=>Af q [1,5,9] [1] (gC h (λh=>tS h (gK (Bd Iq))) λh=>Af q [1,5,9] [1] (tS h (gK (Bd Iq)))))) (gA (gC h (λh=>Af q E0 [] (tS h (Cc []))) λh=>Af q [1,13] [1] (gC h (λh=>Af q E0 [] (tS h (Cc []))) λh=>Af q E0 [] (tS h (Cc []))))))))
def Qt(a1:B2):Option Bool:=
 ((Qu a1).bind λx1=>(bif (x1.1==0) then(some (a1.Dst==0)) else((Nt a1.Dst).bind λx2=>(some x2))))
theorem NG(h:Qt v6=some v3):sP 281 (fI v6) [] (.bool v3) []:=
 sG Tryz.func281 λΓ q=>Af q [1] [1] (tB h λx1 y1 h=>tT q L7 [1] [(z8 x1.1 x1.2)] (c1 (EN y1)) (Af q [1,11] [1] (gC h (λh=>Af q [2] [] (tS h (Cc []))) λh=>tB h λx2 y2 h=>tT q [2] [] [(Z2 x2)] (c1 (Y2 y2)) (tS h (Cc [])))))
def uY(x1:Bool)(x2:Bool):=(bif (!x1) then true else(!x2))
def Rr(a1:B2):Option Bool:=
 ((O4 a1.Kind).bind λx1=>((bif ((!x1)==false) then Td a1.Bits a1.Lanes else some false).bind λx2=>((bif ((bif (!x1) then true else(!x2))==false) then Of a1 else some false).bind λx3=>((bif ((bif (bif (!x1) then true else(!x2)) then true else(!x3))==false) then Qv a1 else some false).bind λx4=>(bif (bif (bif (bif (!x1) then true else(!x2)) then true else(!x3)) then true else(!x4)) then(some false) else((Qs a1).bind λx5=>((bif (x5==true) then Qt a1 else some false).bind λx6=>(some (bif x5 then x6 else false)))))))))
theorem BI(h:Rr v6=some v3):sP 241 (fI v6) [] (.bool v3) []:=
 sG Tryz.func241 λΓ q=>Af q [1] [1] (tB h λx1 y1 h=>tB h λx2 y2 h=>tB h λx3 y3 h=>tB h λx4 y4 h=>tT q [1,24] [1] [(Z2 x1),(Z2 x2),(Z2 x3),(Z2 x4)] (ci (BJ y1) (ZR ((!x1)==false) (d9_ (λ(hg:((!x1)==false)=true)=>(VH (Bq hg y2))) (gI ((!x1)==false)) (Ng (!x1)) (gI ((uY x1 x2)==false)) (λ(hg:((uY x1 x2)==false)=true)=>(HR (Bq hg y3))) (gI ((uY x1 x2)==false)) (Ng (uY x1 x2)) (gI ((bif (uY x1 x2) then true else(!x3))==false)) (λ(hg:((bif (uY x1 x2) then true else(!x3))==false)=true)=>(NH (Bq hg y4))) (c2 (gI ((bif (uY x1 x2) then true else(!x3))==false)) (Ng (bif (uY x1 x2) then true else(!x3))))))) (gC h (λh=>Af q [2] [] (tS h (Cc []))) λh=>tB h λx5 y5 h=>tB h λx6 y6 h=>tT q [2] [] [(Z2 x5),(Z2 x6)] (c4 (NF y5) (gI (x5==true)) (λ(hg:(x5==true)=true)=>(NG (Bq hg y6))) (Nh x5)) (tS h (Cc []))))
def Tb(a1:B2)(aU:Int):Option Bool:=
 (bif (aU==0) then(some (bif (decide (a1.Kind<=17)) then(a1.Lanes==1) else false)) else(bif (aU==1) then(some (bif (decide (a1.Kind<=20)) then(a1.Lanes==1) else false)) else(some true)))
theorem VC(h:Tb v6 v1=some v3):sP 242 [(.agg (J6 v6)),(Z5 v1)] [] (.bool v3) []:=
 sG Tryz.func242 λΓ q=>tW q Ee [2] V6 [2] (Af q W7 [2] (gC h (λh=>tU q [4] [] (M4 ((decide (v6.Kind<=17))==true) (c1 (Nh (decide (v6.Kind<=17))))) (tS h (Cc []))) λh=>Af q V5 [2] (gC h (λh=>tU q [4] [] (M4 ((decide (v6.Kind<=20))==true) (c1 (Nh (decide (v6.Kind<=20))))) (tS h (Cc []))) λh=>Af q [4] [] (tS h (Cc [])))))
abbrev CF:=(Bool×TFunc×Int×Ar×List Be)
def Ic(a1:B2)(a3:TFunc)(a5:Int)(a7:Ar)(aA:List Be):Option CF:=
 ((Rr a1).bind λx1=>((bif (x1==true) then Tb a1 a5 else some false).bind λx2=>(some ((bif x1 then x2 else false),a3,a5,a7,aA))))
variable{v23:CF}
theorem Vv(h:Ic v6 v0 v1 v2 v12=some v23):sP 202 [(.ptr 30000 0),(.agg (J6 v6))] (Z3 v0.Params v0.Ret v0.Blocks v1 v2 v12 v12.length) (.bool v23.1) (Z3 v23.2.1.Params v23.2.1.Ret v23.2.1.Blocks v23.2.2.1 v23.2.2.2.1 v23.2.2.2.2 v23.2.2.2.2.length):=
 sG Tryz.func202 λΓ q=>Af q Rj SX (tB h λx1 y1 h=>tB h λx2 y2 h=>tT q [4] Iy [(Z2 x1),(Z2 x2)] (ci (BI y1) (wT (x1==true) (c2 (λ(hg:(x1==true)=true)=>(VC (Bq hg y2))) (Nh x1)))) (tS h (Cc Zb)))
abbrev S0:=(Int×Ar×Int×List Ae×Int×Ar×List Be)
abbrev zO:=(LR (Int×Ar×Int×List Ae×Int×Ar×List Be) ((Ar×Int×List Ae×Int×Ar×List Be) ⊕ (Bool×TFunc×Int×Ar×List Be)))
def Hj(a9:List B2):S0->Option zO:=
 λ((i1,l2,i3,l4,i5,l6,l7):S0)=>(bif (decide (i1<(a9.length:Int))) then(A0 (A1 i1 a9.length) ((Ic (a9.getD i1.toNat default) (⟨l2,i3,l4⟩:TFunc) i5 l6 l7).bind λx15=>(bif (!x15.1) then(some (.done (.inr (false,x15.2.1,x15.2.2.1,x15.2.2.2.1,x15.2.2.2.2)))) else(some (.next ((w64 (i1+1)),x15.2.1.Params,x15.2.1.Ret,x15.2.1.Blocks,x15.2.2.1,x15.2.2.2.1,x15.2.2.2.2)))))) else(some (.done (.inl (l2,i3,l4,i5,l6,l7)))))
def FD(Γ:H5)(a9:List B2)(a3:TFunc)(a5:Int)(a7:Ar)(aA:List Be)(r:CF):Exit->St->Prop:=fK Tryz.prog Γ Tryz.f201.results.toList (Z3 a3.Params a3.Ret a3.Blocks a5 a7 aA aA.length) (.bool r.1) (Z3 r.2.1.Params r.2.1.Ret r.2.1.Blocks r.2.2.1 r.2.2.2.1 r.2.2.2.2 r.2.2.2.2.length)
def Md(a9:List B2)(a3:TFunc)(a5:Int)(a7:Ar)(aA:List Be):Option CF:=
 ((Ac (Hj a9) ((0:Int),a3.Params,a3.Ret,a3.Blocks,a5,a7,aA)).bind (λx16=>(match x16 with|(.inl (l8,i9,l10,i11,l12,l13))=>(some (true,(⟨l8,i9,l10⟩:TFunc),i11,l12,l13))|(.inr r18)=>(some r18))))
theorem EA(h:Md v7 v0 v1 v2 v12=some v23):sP 201 [(xG v7),(.clo 202 OR [])] (Z3 v0.Params v0.Ret v0.Blocks v1 v2 v12 v12.length) (.bool v23.1) (Z3 v23.2.1.Params v23.2.1.Ret v23.2.1.Blocks v23.2.2.1 v23.2.2.2.1 v23.2.2.2.2 v23.2.2.2.2.length):=
 sG Tryz.func201 λΓ q=>tW q Gn Iy Nc Iy (tL q h Nc Iy (λu (i1,l2,i3,l4,i5,l6,l7)=>(Cl u [(9,(Z5 i1))] (Z3 l2 i3 l4 i5 l6 l7 l7.length))) (λu x_=>match x_ with|(.inl (l8,i9,l10,i11,l12,l13))=>aG Γ (.exit 0) (⟨[],(Z3 l8 i9 l10 i11 l12 l13 l13.length),[]⟩:St)|(.inr r_)=>aR (FD Γ v7 v0 v1 v2 v12 r_)) (λ⟨i1,l2,i3,l4,i5,l6,l7⟩ y h=>Af q MS Iy (gC h (λh=>tV q MT [6,30000,37006] h λh=>tB h λx15 y15 h=>tT q UC Iy [(zy x15.1 x15.2.1.Params x15.2.1.Ret x15.2.1.Blocks x15.2.2.1 x15.2.2.2.1 x15.2.2.2.2 x15.2.2.2.2.length)] (c1 (Vv y15)) (gC h (λh=>Af q [4] Iy (tS h (gO (Lm (H6 Zb (Le.refl _ _)))))) λh=>Af q Nc Iy (tN h))) λh=>tS h (gO (Bd (Bi [] Iy q))))) λx16 h=>(match x16,h with | .inl ⟨l8,i9,l10,i11,l12,l13⟩,h=>gA (Af q [4] Iy (tS h (Cc Zb))) | .inr r18,h=>O3 (λst' hk=>tS h (gK hk))))
def Q79(x1:Bool)(x2:CF)(a7:Ar):AV:=(Z63 x1 x2.2.2.2.1 a7)
def Q78(x1:Bool)(x2:CF)(a3:TFunc):AV:=(Z63 x1 x2.2.1.Params a3.Params)
def Q77(x1:Bool)(x2:CF)(a3:TFunc):AV:=(.slice 5 (bif (x1==true) then x2.2.1.Blocks.length else a3.Blocks.length) (λi=>bif (x1==true) then Cg (x2.2.1.Blocks.getD i default) else Cg (a3.Blocks.getD i default)) .none)
def Gu(aJ:Ae)(a3:TFunc)(a5:Int)(a7:Ar)(aA:List Be):Option CF:=
 ((Ln aJ.Phis).bind λx1=>((bif (x1==true) then Md aJ.Ops a3 a5 a7 aA else some (false,(default:TFunc),(0:Int),[],[])).bind λx2=>(some ((bif x1 then x2.1 else false),(⟨(bif (x1==true) then x2.2.1.Params else a3.Params),(bif (x1==true) then x2.2.1.Ret else a3.Ret),(bif (x1==true) then x2.2.1.Blocks else a3.Blocks)⟩:TFunc),(bif (x1==true) then x2.2.2.1 else a5),(bif (x1==true) then x2.2.2.2.1 else a7),(bif (x1==true) then x2.2.2.2.2 else aA)))))
theorem Te(h:Gu v9 v0 v1 v2 v12=some v23):sP 158 [(.ptr 30000 0),(.agg (Cg v9))] (Z3 v0.Params v0.Ret v0.Blocks v1 v2 v12 v12.length) (.bool v23.1) (Z3 v23.2.1.Params v23.2.1.Ret v23.2.1.Blocks v23.2.2.1 v23.2.2.2.1 v23.2.2.2.2 v23.2.2.2.2.length):=
 sG Tryz.func158 λΓ q=>Af q Rj SX (tB h λx1 y1 h=>tB h λx2 y2 h=>tT q [4] Iy [(Z2 x1),(zy x2.1 x2.2.1.Params x2.2.1.Ret x2.2.1.Blocks x2.2.2.1 x2.2.2.2.1 x2.2.2.2.2 x2.2.2.2.2.length)] (ci (BD y1) (ZR (x1==true) (c2 (λ(hg:(x1==true)=true)=>(EA (Bq hg y2))) (Nh x1)))) (tS h (gK (e:=.ret) (H6 Zb (Le.trans (leB (λg_ u=>(Cl u [] [(30000,.row 102 [(Q78 x1 x2 v0),(.int .i64 (bif (x1==true) then x2.2.1.Ret else v0.Ret)),(Q77 x1 x2 v0),(.int .i64 (bif (x1==true) then x2.2.2.1 else v1)),(Q79 x1 x2 v2),.nilm,(Z41 g_ x2.2.2.2.2 v12)]),(37006,.tok 5 211 (bif g_ then x2.2.2.2.2.length else v12.length))])) (λg_ u=>(Cl u [] [(30000,.row 102 [(Q78 x1 x2 v0),(.int .i64 (bif (x1==true) then x2.2.1.Ret else v0.Ret)),(Q77 x1 x2 v0),(.int .i64 (bif (x1==true) then x2.2.2.1 else v1)),(Q79 x1 x2 v2),.nilm,(AV.list 5 Ol default (bif g_ then x2.2.2.2.2 else v12) (.own 37006))]),(37006,.tok 5 211 ((bif g_ then x2.2.2.2.2 else v12).length))])) (x1==true)) (Le.trans (s8 30000 0 (show AVle (Q78 x1 x2 v0) (AV.list 1 Ap 0 (bif (x1==true) then x2.2.1.Params else v0.Params) .none) from Kc)) (Le.trans (s8 30000 2 (show AVle (Q77 x1 x2 v0) (AV.list 5 Cg default (bif (x1==true) then x2.2.1.Blocks else v0.Blocks) .none) from Kc)) (s8 30000 4 (show AVle (Q79 x1 x2 v2) (AV.list 1 Ap 0 (bif (x1==true) then x2.2.2.2.1 else v2) .none) from Kc)))))))))
def Fk(a9:List Ae):S0->Option zO:=
 λ((i1,l2,i3,l4,i5,l6,l7):S0)=>(bif (decide (i1<(a9.length:Int))) then(A0 (A1 i1 a9.length) ((Gu (a9.getD i1.toNat default) (⟨l2,i3,l4⟩:TFunc) i5 l6 l7).bind λx15=>(bif (!x15.1) then(some (.done (.inr (false,x15.2.1,x15.2.2.1,x15.2.2.2.1,x15.2.2.2.2)))) else(some (.next ((w64 (i1+1)),x15.2.1.Params,x15.2.1.Ret,x15.2.1.Blocks,x15.2.2.1,x15.2.2.2.1,x15.2.2.2.2)))))) else(some (.done (.inl (l2,i3,l4,i5,l6,l7)))))
def Ze(Γ:H5)(a9:List Ae)(a3:TFunc)(a5:Int)(a7:Ar)(aA:List Be)(r:CF):Exit->St->Prop:=fK Tryz.prog Γ Tryz.f157.results.toList (Z3 a3.Params a3.Ret a3.Blocks a5 a7 aA aA.length) (.bool r.1) (Z3 r.2.1.Params r.2.1.Ret r.2.1.Blocks r.2.2.1 r.2.2.2.1 r.2.2.2.2 r.2.2.2.2.length)
def Ju(a9:List Ae)(a3:TFunc)(a5:Int)(a7:Ar)(aA:List Be):Option CF:=
 ((Ac (Fk a9) ((0:Int),a3.Params,a3.Ret,a3.Blocks,a5,a7,aA)).bind (λx16=>(match x16 with|(.inl (l8,i9,l10,i11,l12,l13))=>(some (true,(⟨l8,i9,l10⟩:TFunc),i11,l12,l13))|(.inr r18)=>(some r18))))
theorem Xz(h:Ju v10 v0 v1 v2 v12=some v23):sP 157 [(UF v10),(.clo 158 OR [])] (Z3 v0.Params v0.Ret v0.Blocks v1 v2 v12 v12.length) (.bool v23.1) (Z3 v23.2.1.Params v23.2.1.Ret v23.2.1.Blocks v23.2.2.1 v23.2.2.2.1 v23.2.2.2.2 v23.2.2.2.2.length):=
 sG Tryz.func157 λΓ q=>tW q Gn Iy Nc Iy (tL q h Nc Iy (λu (i1,l2,i3,l4,i5,l6,l7)=>(Cl u [(9,(Z5 i1))] (Z3 l2 i3 l4 i5 l6 l7 l7.length))) (λu x_=>match x_ with|(.inl (l8,i9,l10,i11,l12,l13))=>aG Γ (.exit 0) (⟨[],(Z3 l8 i9 l10 i11 l12 l13 l13.length),[]⟩:St)|(.inr r_)=>aR (Ze Γ v10 v0 v1 v2 v12 r_)) (λ⟨i1,l2,i3,l4,i5,l6,l7⟩ y h=>Af q MS Iy (gC h (λh=>tV q MT [6,30000,37006] h λh=>tB h λx15 y15 h=>tT q UC Iy [(zy x15.1 x15.2.1.Params x15.2.1.Ret x15.2.1.Blocks x15.2.2.1 x15.2.2.2.1 x15.2.2.2.2 x15.2.2.2.2.length)] (c1 (Te y15)) (gC h (λh=>Af q [4] Iy (tS h (gO (Lm (H6 Zb (Le.refl _ _)))))) λh=>Af q Nc Iy (tN h))) λh=>tS h (gO (Bd (Bi [] Iy q))))) λx16 h=>(match x16,h with | .inl ⟨l8,i9,l10,i11,l12,l13⟩,h=>gA (Af q [4] Iy (tS h (Cc Zb))) | .inr r18,h=>O3 (λst' hk=>tS h (gK hk))))
def ku(x1:Bool)(x2:Bool):=((bif x1 then x2 else false)==true)
def Q83(x1:Bool)(x2:Bool)(x3:CF)(a7:Ar):AV:=(zw (ku x1 x2) x3.2.2.2.1 a7)
def Q82(x1:Bool)(x2:Bool)(x3:CF)(a3:TFunc):AV:=(zw (ku x1 x2) x3.2.1.Params a3.Params)
def Q81(x1:Bool)(x2:Bool)(x3:CF)(a3:TFunc):AV:=(Z61 (ku x1 x2) x3.2.1.Blocks a3.Blocks)
def Jv(a3:TFunc)(a5:Int)(a7:Ar)(aA:List Be):Option mR:=
 ((Pc a3.Params).bind λx1=>((bif (x1==true) then Ld a3.Ret else some false).bind λx2=>((bif ((bif x1 then x2 else false)==true) then Ju a3.Blocks a3 a5 a7 aA else some (false,(default:TFunc),(0:Int),[],[])).bind λx3=>((Nq (bif (bif x1 then x2 else false) then x3.1 else false) (6:Int)).bind λx4=>(some (x4,(⟨(bif ((bif x1 then x2 else false)==true) then x3.2.1.Params else a3.Params),(bif ((bif x1 then x2 else false)==true) then x3.2.1.Ret else a3.Ret),(bif ((bif x1 then x2 else false)==true) then x3.2.1.Blocks else a3.Blocks)⟩:TFunc),(bif ((bif x1 then x2 else false)==true) then x3.2.2.1 else a5),(bif ((bif x1 then x2 else false)==true) then x3.2.2.2.1 else a7),(bif ((bif x1 then x2 else false)==true) then x3.2.2.2.2 else aA)))))))
theorem X0(h:Jv v0 v1 v2 v12=some v13):sP 106 OR (Z3 v0.Params v0.Ret v0.Blocks v1 v2 v12 v12.length) (Z5 v13.1) (Z3 v13.2.1.Params v13.2.1.Ret v13.2.1.Blocks v13.2.2.1 v13.2.2.2.1 v13.2.2.2.2 v13.2.2.2.2.length):=
 sG Tryz.func106 λΓ q=>Af q [0] Iy (tB h λx1 y1 h=>tB h λx2 y2 h=>tB h λx3 y3 h=>tT q [3] Iy [(Z2 x1),(Z2 x2),(zy x3.1 x3.2.1.Params x3.2.1.Ret x3.2.1.Blocks x3.2.2.1 x3.2.2.2.1 x3.2.2.2.2 x3.2.2.2.2.length)] (ci (JN y1) (wT (x1==true) (ed (λ(hg:(x1==true)=true)=>(N0 (Bq hg y2))) (Nh x1) (gI7 (ku x1 x2) (c2 (λ(hg:(ku x1 x2)=true)=>(Xz (Bq hg y3))) (Nh (bif x1 then x2 else false))))))) (gLe (Le.trans (leB (λg_ u=>(Cl u [] [(30000,.row 102 [(Q82 x1 x2 x3 v0),(ud (ku x1 x2) x3.2.1.Ret v0.Ret),(Q81 x1 x2 x3 v0),(ud (ku x1 x2) x3.2.2.1 v1),(Q83 x1 x2 x3 v2),.nilm,(Z41 g_ x3.2.2.2.2 v12)]),(37006,.tok 5 211 (bif g_ then x3.2.2.2.2.length else v12.length))])) (λg_ u=>(Cl u [] [(30000,.row 102 [(Q82 x1 x2 x3 v0),(ud (ku x1 x2) x3.2.1.Ret v0.Ret),(Q81 x1 x2 x3 v0),(ud (ku x1 x2) x3.2.2.1 v1),(Q83 x1 x2 x3 v2),.nilm,(AV.list 5 Ol default (bif g_ then x3.2.2.2.2 else v12) (.own 37006))]),(37006,.tok 5 211 ((bif g_ then x3.2.2.2.2 else v12).length))])) (ku x1 x2)) (Le.trans (s8 30000 0 (show AVle (Q82 x1 x2 x3 v0) (AV.list 1 Ap 0 (bif (ku x1 x2) then x3.2.1.Params else v0.Params) .none) from Kc)) (Le.trans (s8 30000 2 (show AVle (Q81 x1 x2 x3 v0) (AV.list 5 Cg default (bif (ku x1 x2) then x3.2.1.Blocks else v0.Blocks) .none) from Kc)) (s8 30000 4 (show AVle (Q83 x1 x2 x3 v2) (AV.list 1 Ap 0 (bif (ku x1 x2) then x3.2.2.2.1 else v2) .none) from Kc))))) (tB h λx4 y4 h=>tT q [2] Iy [(ZA x4)] (c1 (Yz y4)) (tS h (Cc Zb)))))
def Ex(aE:Int):Option Gq:=
 (some (aE,(1:Int)))
theorem Mr(h:Ex v1=some v19):sP 159 [(Z5 v1)] [] (.agg (Bo v19)) []:=
 sG Tryz.func159 λΓ q=>tW q [0,2] [2] [2] [2] (tS h (Cc []))
def xC:=(λ(v_:Ay)=>((Xd v_):AV))
abbrev O9:=(Int×Ay)
abbrev eO:=(Bool×TFunc×Int×Ar×List Be×List (Int×Ay))
def Gv(aD:Int)(aa6:Gq)(aM:L8)(a3:TFunc)(a5:Int)(a7:Ar)(aB:List O9)(aA:List Be):Option eO:=
 (bif (bif (bif (Ed aB aD) then true else(decide (aD<1))) then true else(decide ((1023:Int)<aD))) then(some (false,a3,a5,a7,aA,aB)) else(some (true,a3,a5,a7,aA,(Jm aB aD (⟨aa6,aM⟩:Ay)))))
variable{v24:L8}{v25:List O9}{v26:eO}
abbrev mQ:=(Int×AV)
theorem Py(h:Gv v1 v19 v24 v0 v11 v2 v25 v12=some v26):sP 203 [(.ptr 30000 0),(Z5 v1),(.agg (Bo v19)),(.agg (NW v24))] [(Z1 v0.Params v0.Ret v0.Blocks v11 v2 9100005 v12),(Ll 37006 211 v12.length),(9100005,.obj (.map true .i64 (Bu (λ(v_:Ay)=>((Xd v_):AV)) v25)))] (.bool v26.1) [(Z1 v26.2.1.Params v26.2.1.Ret v26.2.1.Blocks v26.2.2.1 v26.2.2.2.1 9100005 v26.2.2.2.2.1),(Ll 37006 211 v26.2.2.2.2.1.length),(9100005,.obj (.map true .i64 (Bu (λ(v_:Ay)=>((Xd v_):AV)) v26.2.2.2.2.2)))]:=
 sG Tryz.func203 λΓ q=>Af q TN kK (gR q [0,1,6,7,10] kK [(17,(.tuple [(uc v25 v1),(.bool (Ed v25 v1))]))] [] (c1 (show(AVle (.tuple [Fx (.agg [L9,L9,L9,L9]) (Bu xC v25) v1,.bool (Ed (Bu xC v25) v1)]) (.tuple [(uc v25 v1),(.bool (Ed v25 v1))])) from(QN (f:=xC) (l:=v25) (AVle.refl _) rfl))) (tU q [0,1,6,7,28] kK (c4 (gI ((Ed v25 v1)==false)) (Ng (Ed v25 v1)) (gI ((bif (Ed v25 v1) then true else(decide (v1<1)))==false)) (Ng (bif (Ed v25 v1) then true else(decide (v1<1))))) (gC h (λh=>Af q [8] Iv (tS h (Cc EC))) λh=>Af q [] Iv (gLe (Sa (λ(k_:List mQ) u=>Cl u [] [(UP 9100005 k_)]) (show(Jm (Bu xC v25) v1 (.agg [(Z5 v19.1),(Z5 v19.2),(Z5 v24.block),(Z5 v24.at_)]))=(Bu xC (Jm v25 v1 (⟨v19,v24⟩:Ay))) from(ak (f:=xC) (l:=v25) (v:=(⟨v19,v24⟩:Ay)) rfl rfl))) (Af q [8] Iv (tS h (Cc EC)))))))
def Qq(a1:B2):Option Gq:=
 ((Rr a1).bind λx1=>(bif (!x1) then(some ((0:Int),(0:Int))) else((Qu a1).bind λx2=>(some (x2.1,x2.2)))))
theorem VG(h:Qq v6=some v19):sP 204 (fI v6) [] (.tuple [(Z5 v19.1),(Z5 v19.2)]) []:=
 sG Tryz.func204 λΓ q=>Af q [1] [1] (tB h λx1 y1 h=>tT q [1,6] [1] [(Z2 x1)] (c1 (BI y1)) (gC h (λh=>Af q E0 [] (tS h (Cc []))) λh=>tB h λx2 y2 h=>tT q E0 [] [(z8 x2.1 x2.2)] (c1 (EN y2)) (tS h (Cc []))))
set_option maxRecDepth 100000
set_option maxHeartbeats 2000000
abbrev uL:=(Int×Ar×Int×List Ae×Int×Ar×List Be×List (Int×Ay))
abbrev zP:=(LR (Int×Ar×Int×List Ae×Int×Ar×List Be×List (Int×Ay)) ((Ar×Int×List Ae×Int×Ar×List Be×List (Int×Ay)) ⊕ (Bool×TFunc×Int×Ar×List Be×List (Int×Ay))))
def Dz(aa3:Int)(aJ:Ae):uL->Option zP:=
 λ((i1,l2,i3,l4,i5,l6,l7,l8):uL)=>(bif (decide (i1<(aJ.Phis.length:Int))) then(A0 (A1 i1 aJ.Phis.length) ((Ex ((aJ.Phis.getD i1.toNat default).Bits)).bind λx17=>((Gv ((aJ.Phis.getD i1.toNat default).Dst) x17 (⟨aa3,(-1:Int)⟩:L8) (⟨l2,i3,l4⟩:TFunc) i5 l6 l8 l7).bind λx18=>(bif (!x18.1) then(some (.done (.inr (false,x18.2.1,x18.2.2.1,x18.2.2.2.1,x18.2.2.2.2.1,x18.2.2.2.2.2)))) else(some (.next ((w64 (i1+1)),x18.2.1.Params,x18.2.1.Ret,x18.2.1.Blocks,x18.2.2.1,x18.2.2.2.1,x18.2.2.2.2.1,x18.2.2.2.2.2))))))) else(some (.done (.inl (l2,i3,l4,i5,l6,l7,l8)))))
def Cp(aa3:Int)(aJ:Ae):uL->Option zP:=
 λ((i21,l22,i23,l24,i25,l26,l27,l28):uL)=>(bif (decide (i21<(aJ.Ops.length:Int))) then(A0 (A1 i21 aJ.Ops.length) ((Qq (aJ.Ops.getD i21.toNat default)).bind λx37=>((bif ((decide ((0:Int)<x37.1))==true) then Gv ((aJ.Ops.getD i21.toNat default).Dst) (x37.1,x37.2) (⟨aa3,i21⟩:L8) (⟨l22,i23,l24⟩:TFunc) i25 l26 l28 l27 else some (false,(default:TFunc),(0:Int),[],[],[])).bind λx38=>(bif (bif (decide ((0:Int)<x37.1)) then(!x38.1) else false) then(some (.done (.inr (false,(⟨(bif ((decide ((0:Int)<x37.1))==true) then x38.2.1.Params else l22),(bif ((decide ((0:Int)<x37.1))==true) then x38.2.1.Ret else i23),(bif ((decide ((0:Int)<x37.1))==true) then x38.2.1.Blocks else l24)⟩:TFunc),(bif ((decide ((0:Int)<x37.1))==true) then x38.2.2.1 else i25),(bif ((decide ((0:Int)<x37.1))==true) then x38.2.2.2.1 else l26),(bif ((decide ((0:Int)<x37.1))==true) then x38.2.2.2.2.1 else l27),(bif ((decide ((0:Int)<x37.1))==true) then x38.2.2.2.2.2 else l28))))) else(some (.next ((w64 (i21+1)),(bif ((decide ((0:Int)<x37.1))==true) then x38.2.1.Params else l22),(bif ((decide ((0:Int)<x37.1))==true) then x38.2.1.Ret else i23),(bif ((decide ((0:Int)<x37.1))==true) then x38.2.1.Blocks else l24),(bif ((decide ((0:Int)<x37.1))==true) then x38.2.2.1 else i25),(bif ((decide ((0:Int)<x37.1))==true) then x38.2.2.2.1 else l26),(bif ((decide ((0:Int)<x37.1))==true) then x38.2.2.2.2.1 else l27),(bif ((decide ((0:Int)<x37.1))==true) then x38.2.2.2.2.2 else l28)))))))) else(some (.done (.inl (l22,i23,l24,i25,l26,l27,l28)))))
def Ok(Γ:H5)(aa3:Int)(aJ:Ae)(a3:TFunc)(a5:Int)(a7:Ar)(aB:List O9)(aA:List Be)(r:eO):Exit->St->Prop:=fK Tryz.prog Γ Tryz.f160.results.toList [(Z1 a3.Params a3.Ret a3.Blocks a5 a7 9100005 aA),(Ll 37006 211 aA.length),(9100005,.obj (.map true .i64 (Bu (λ(v_:Ay)=>((Xd v_):AV)) aB)))] (.bool r.1) [(Z1 r.2.1.Params r.2.1.Ret r.2.1.Blocks r.2.2.1 r.2.2.2.1 9100005 r.2.2.2.2.1),(Ll 37006 211 r.2.2.2.2.1.length),(9100005,.obj (.map true .i64 (Bu (λ(v_:Ay)=>((Xd v_):AV)) r.2.2.2.2.2)))]
def eY(x37:Gq):=((decide ((0:Int)<x37.1))==true)
def sE:=(λ(v_:Ay)=>((Xd v_):AV))
def Q89(x37:Gq)(x38:eO)(l26:Ar):AV:=(zw (eY x37) x38.2.2.2.1 l26)
def Q90(x37:Gq)(x38:eO)(l24:List Ae):AV:=(Z61 (eY x37) x38.2.1.Blocks l24)
def Q88(x37:Gq)(x38:eO)(l22:Ar):AV:=(zw (eY x37) x38.2.1.Params l22)
def Hg(aa3:Int)(aJ:Ae)(a3:TFunc)(a5:Int)(a7:Ar)(aB:List O9)(aA:List Be):Option eO:=
 ((Ac (Dz aa3 aJ) ((0:Int),a3.Params,a3.Ret,a3.Blocks,a5,a7,aA,aB)).bind (λx19=>(match x19 with|(.inl (l9,i10,l11,i12,l13,l14,l15))=>((Ac (Cp aa3 aJ) ((0:Int),l9,i10,l11,i12,l13,l14,l15)).bind (λx39=>(match x39 with|(.inl (l29,i30,l31,i32,l33,l34,l35))=>(some (true,(⟨l29,i30,l31⟩:TFunc),i32,l33,l34,l35))|(.inr r41)=>(some r41))))|(.inr r42)=>(some r42))))
theorem T4(h:Hg v1 v9 v0 v11 v2 v25 v12=some v26):sP 160 [(.ptr 30000 0),(Z5 v1),(.agg (Cg v9))] [(Z1 v0.Params v0.Ret v0.Blocks v11 v2 9100005 v12),(Ll 37006 211 v12.length),(9100005,.obj (.map true .i64 (Bu (λ(v_:Ay)=>((Xd v_):AV)) v25)))] (.bool v26.1) [(Z1 v26.2.1.Params v26.2.1.Ret v26.2.1.Blocks v26.2.2.1 v26.2.2.2.1 9100005 v26.2.2.2.2.1),(Ll 37006 211 v26.2.2.2.2.1.length),(9100005,.obj (.map true .i64 (Bu (λ(v_:Ay)=>((Xd v_):AV)) v26.2.2.2.2.2)))]:=
 sG Tryz.func160 λΓ q=>tW q Nd MN iG MN (tL q h iG MN (λu (i1,l2,i3,l4,i5,l6,l7,l8)=>(Cl u [(16,(Z5 i1))] [(Z1 l2 i3 l4 i5 l6 9100005 l7),(Ll 37006 211 l7.length),(9100005,.obj (.map true .i64 (Bu sE l8)))])) (λu x_=>match x_ with|(.inl (l9,i10,l11,i12,l13,l14,l15))=>aG Γ (.exit 0) (Ni Nd MN u [] [(Z1 l9 i10 l11 i12 l13 9100005 l14),(Ll 37006 211 l14.length),(9100005,.obj (.map true .i64 (Bu sE l15)))])|(.inr r_)=>aR (Ok Γ v1 v9 v0 v11 v2 v25 v12 r_)) (λ⟨i1,l2,i3,l4,i5,l6,l7,l8⟩ y h=>Af q [0,1,5,14,15,16,17] MN (gC h (λh=>tV q [0,1,5,8,14,15,16] [5,8,30000,37006,9100005] h λh=>tB h λx17 y17 h=>tB h λx18 y18 h=>tT q [0,1,5,14,15,16,29] MN [(yS x17),⟨EC,[],(.bool x18.1),[(Z1 x18.2.1.Params x18.2.1.Ret x18.2.1.Blocks x18.2.2.1 x18.2.2.2.1 9100005 x18.2.2.2.2.1),(Ll 37006 211 x18.2.2.2.2.1.length),(9100005,.obj (.map true .i64 (Bu sE x18.2.2.2.2.2)))],[],[]⟩] (c2 (Mr y17) (Py y18)) (gC h (λh=>Af q [6] Iv (tS h (gO (Lm (H6 EC (Le.refl _ _)))))) λh=>Af q iG MN (tN h))) λh=>tS h (gO (Bd (Bi Nd MN q))))) λx19 h=>(match x19,h with | .inl ⟨l9,i10,l11,i12,l13,l14,l15⟩,h=>gA (Af q iL Iv (tL q h iL Iv (λu (i21,l22,i23,l24,i25,l26,l27,l28)=>(Cl u [(34,(Z5 i21))] [(Z1 l22 i23 l24 i25 l26 9100005 l27),(Ll 37006 211 l27.length),(9100005,.obj (.map true .i64 (Bu sE l28)))])) (λu x_=>match x_ with|(.inl (l29,i30,l31,i32,l33,l34,l35))=>aG Γ (.exit 2) (⟨[],[(Z1 l29 i30 l31 i32 l33 9100005 l34),(Ll 37006 211 l34.length),(9100005,.obj (.map true .i64 (Bu sE l35)))],[]⟩:St)|(.inr r_)=>aR (Ok Γ v1 v9 v0 v11 v2 v25 v12 r_)) (λ⟨i21,l22,i23,l24,i25,l26,l27,l28⟩ y h=>Af q [0,1,32,33,34,35] Iv (gC h (λh=>tV q [0,1,9,10,32,33,34] qo h λh=>tB h λx37 y37 h=>tT q [0,1,9,10,11,12,32,33,34] qo [(z8 x37.1 x37.2)] (c1 (VG y37)) (tB h λx38 y38 h=>tT q [0,1,32,33,34,58] Iv [⟨EC,[],(.bool x38.1),[(Z1 x38.2.1.Params x38.2.1.Ret x38.2.1.Blocks x38.2.2.1 x38.2.2.2.1 9100005 x38.2.2.2.2.1),(Ll 37006 211 x38.2.2.2.2.1.length),(9100005,.obj (.map true .i64 (Bu sE x38.2.2.2.2.2)))],[],[]⟩] (gI9 (eY x37) (c3 (λ(hg:(eY x37)=true)=>(Py (Bq hg y38))) (gI (eY x37)) (Nh (decide ((0:Int)<x37.1))))) (gLe (Le.trans (Sa (λ(k_:List mQ) u=>Cl u [] [(UP 9100005 k_)]) (show(bif (eY x37) then(Bu sE x38.2.2.2.2.2) else(Bu sE l28))=(Bu sE (bif (eY x37) then x38.2.2.2.2.2 else l28)) from(n7 rfl rfl))) (Le.trans (leB (λg_ u=>(Cl u [] [(30000,.row 102 [(Q88 x37 x38 l22),(ud (eY x37) x38.2.1.Ret i23),(Q90 x37 x38 l24),(ud (eY x37) x38.2.2.1 i25),(Q89 x37 x38 l26),(.omap 9100005),(Z41 g_ x38.2.2.2.2.1 l27)]),(37006,.tok 5 211 (bif g_ then x38.2.2.2.2.1.length else l27.length))])) (λg_ u=>(Cl u [] [(30000,.row 102 [(Q88 x37 x38 l22),(ud (eY x37) x38.2.1.Ret i23),(Q90 x37 x38 l24),(ud (eY x37) x38.2.2.1 i25),(Q89 x37 x38 l26),(.omap 9100005),(AV.list 5 Ol default (bif g_ then x38.2.2.2.2.1 else l27) (.own 37006))]),(37006,.tok 5 211 ((bif g_ then x38.2.2.2.2.1 else l27).length))])) (eY x37)) (Le.trans (s8 30000 0 (show AVle (Q88 x37 x38 l22) (AV.list 1 Ap 0 (bif (eY x37) then x38.2.1.Params else l22) .none) from Kc)) (Le.trans (s8 30000 2 (show AVle (Q90 x37 x38 l24) (AV.list 5 Cg default (bif (eY x37) then x38.2.1.Blocks else l24) .none) from Kc)) (s8 30000 4 (show AVle (Q89 x37 x38 l26) (AV.list 1 Ap 0 (bif (eY x37) then x38.2.2.2.1 else l26) .none) from Kc)))))) (gC h (λh=>Af q [6] Iv (tS h (gO (Lm (H6 EC (Le.refl _ _)))))) λh=>Af q iL Iv (tN h))))) λh=>tS h (gO (Bd (Bi [] Iv q))))) λx39 h=>(match x39,h with | .inl ⟨l29,i30,l31,i32,l33,l34,l35⟩,h=>gA (Af q [6] Iv (tS h (Cc EC))) | .inr r41,h=>O3 (λst' hk=>tS h (gK hk))))) | .inr r42,h=>O3 (λst' hk=>tS h (gK hk))))
abbrev zQ:=(Int×List (Int×Ay))
def Gw(a3:TFunc):zQ->Option (LR (Int×List (Int×Ay)) (List (Int×Ay))):=
 λ((i1,l2):zQ)=>(bif (decide (i1<(a3.Params.length:Int))) then(A0 (A1 i1 a3.Params.length) ((Ex (a3.Params.getD i1.toNat 0)).bind λx5=>(some (.next ((w64 (i1+1)),(Jm l2 (w64 (i1+1)) (⟨x5,(⟨(0:Int),(-1:Int)⟩:L8)⟩:Ay))))))) else(some (.done l2)))
abbrev zR:=(Int×List (Int×Ay)×Ar×Int×List Ae×Int×Ar×List Be)
def Ew(a3:TFunc):zR->Option (LR (Int×List (Int×Ay)×Ar×Int×List Ae×Int×Ar×List Be) ((List (Int×Ay)×Ar×Int×List Ae×Int×Ar×List Be) ⊕ (Int×TFunc×Int×Ar×List Be×List (Int×Ay)))):=
 λ((i8,l9,l10,i11,l12,i13,l14,l15):zR)=>(bif (decide (i8<(a3.Blocks.length:Int))) then(A0 (A1 i8 a3.Blocks.length) ((Hg i8 (a3.Blocks.getD i8.toNat default) (⟨l10,i11,l12⟩:TFunc) i13 l14 l9 l15).bind λx24=>(bif (!x24.1) then(some (.done (.inr ((7:Int),x24.2.1,x24.2.2.1,x24.2.2.2.1,x24.2.2.2.2.1,x24.2.2.2.2.2)))) else(some (.next ((w64 (i8+1)),x24.2.2.2.2.2,x24.2.1.Params,x24.2.1.Ret,x24.2.1.Blocks,x24.2.2.1,x24.2.2.2.1,x24.2.2.2.2.1)))))) else(some (.done (.inl (l9,l10,i11,l12,i13,l14,l15)))))
abbrev uN:=(Int×TFunc×Int×Ar×List Be×List (Int×Ay))
def Wa(Γ:H5)(a3:TFunc)(a5:Int)(a7:Ar)(aA:List Be)(r:uN):Exit->St->Prop:=fK Tryz.prog Γ Tryz.f107.results.toList (Z3 a3.Params a3.Ret a3.Blocks a5 a7 aA aA.length) (Z5 r.1) [(Z1 r.2.1.Params r.2.1.Ret r.2.1.Blocks r.2.2.1 r.2.2.2.1 9200005 r.2.2.2.2.1),(Ll 37006 211 r.2.2.2.2.1.length),(9200005,.obj (.map false .i64 (Bu (λ(v_:Ay)=>((Xd v_):AV)) r.2.2.2.2.2)))]
def ij:=(λ(v_:Ay)=>((Xd v_):AV))
def Q92(l16:List O9)(l17:Ar)(i18:Int)(l19:List Ae)(i20:Int)(l21:Ar)(l22:List Be):List OJ:=[(8,.obj (.map true .i64 (Bu ij l16))),(yK l17 i18 l19 i20 l21 l22),(Ll 37006 211 l22.length)]
def Ia(a3:TFunc)(a5:Int)(a7:Ar)(aA:List Be):Option uN:=
 ((Ac (Gw a3) ((0:Int),([]:List O9))).bind (λx6=>((Ac (Ew a3) ((0:Int),x6,a3.Params,a3.Ret,a3.Blocks,a5,a7,aA)).bind (λx25=>(match x25 with|(.inl (l16,l17,i18,l19,i20,l21,l22))=>(some ((0:Int),(⟨l17,i18,l19⟩:TFunc),i20,l21,l22,l16))|(.inr r27)=>(some r27))))))
variable{v27:uN}
theorem Vs(h:Ia v0 v1 v2 v12=some v27):sP 107 OR (Z3 v0.Params v0.Ret v0.Blocks v1 v2 v12 v12.length) (Z5 v27.1) [(Z1 v27.2.1.Params v27.2.1.Ret v27.2.1.Blocks v27.2.2.1 v27.2.2.2.1 9200005 v27.2.2.2.2.1),(Ll 37006 211 v27.2.2.2.2.1.length),(9200005,.obj (.map false .i64 (Bu (λ(v_:Ay)=>((Xd v_):AV)) v27.2.2.2.2.2)))]:=
 sG Tryz.func107 λΓ q=>tW q [0] Iy [0] Q8 (gLe (Sa (λ(k_:List mQ) u=>Cl u [] [(8,.obj (.map true .i64 k_))]) (show[]=(Bu ij ([]:List O9)) from rfl)) (Af q bX Q8 (tL q h bX Q8 (λu (i1,l2)=>(Cl u [(17,(Z5 i1))] [(8,.obj (.map true .i64 (Bu ij l2)))])) (λu l3=>aG Γ (.exit 0) (Ni [0] Q8 u [] [(8,.obj (.map true .i64 (Bu ij l3)))])) (λ⟨i1,l2⟩ y h=>Af q [0,15,16,17,18] Q8 (gC h (λh=>tV q [0,3,4,15,16,17] Q8 h λh=>tB h λx5 y5 h=>tT q bX Q8 [(yS x5)] (c1 (Mr y5)) (gLe (Sa (λ(k_:List mQ) u=>Cl u [] [(8,.obj (.map true .i64 k_))]) (show(Jm (Bu ij l2) (w64 (i1+1)) (.agg [(Z5 x5.1),(Z5 x5.2),L9,(.int .i64 (-1:Int))]))=(Bu ij (Jm l2 (w64 (i1+1)) (⟨x5,(⟨(0:Int),(-1:Int)⟩:L8)⟩:Ay))) from(ak (f:=ij) (l:=l2) (v:=(⟨x5,(⟨(0:Int),(-1:Int)⟩:L8)⟩:Ay)) rfl rfl))) (Af q bX Q8 (tN h)))) λh=>tS h (gO (Bd (Bi [0] Q8 q))))) λx6 h=>gA (Af q iU Q8 (tL q h iU Q8 (λu (i8,l9,l10,i11,l12,i13,l14,l15)=>(Cl u [(39,(Z5 i8))] [(8,.obj (.map true .i64 (Bu ij l9))),(yK l10 i11 l12 i13 l14 l15),(Ll 37006 211 l15.length)])) (λu x_=>match x_ with|(.inl (l16,l17,i18,l19,i20,l21,l22))=>aG Γ (.exit 2) (⟨[],(Q92 l16 l17 i18 l19 i20 l21 l22),[]⟩:St)|(.inr r_)=>aR (Wa Γ v0 v1 v2 v12 r_)) (λ⟨i8,l9,l10,i11,l12,i13,l14,l15⟩ y h=>Af q [0,37,38,39,40] Q8 (gC h (λh=>tV q [0,5,6,37,38,39] [6,8,30000,37006] h λh=>tB h λx24 y24 h=>tT q [0,37,38,39,48] Q8 [⟨[(30000,30000),(37006,37006),(8,9100005)],[],(.bool x24.1),[(Z1 x24.2.1.Params x24.2.1.Ret x24.2.1.Blocks x24.2.2.1 x24.2.2.2.1 9100005 x24.2.2.2.2.1),(Ll 37006 211 x24.2.2.2.2.1.length),(9100005,.obj (.map true .i64 (Bu ij x24.2.2.2.2.2)))],[],[]⟩] (c1 (T4 y24)) (gC h (λh=>Af q [2] Q8 (Qc (⟨[(2,(.int .i64 (7:Int)))],[(8,.obj (.map true .i64 (Bu ij x24.2.2.2.2.2))),(yK x24.2.1.Params x24.2.1.Ret x24.2.1.Blocks x24.2.2.1 x24.2.2.2.1 x24.2.2.2.2.1),(Ll 37006 211 x24.2.2.2.2.1.length)],[]⟩:St) (tS h (gO (Lm (H6 qf (Le.trans (fw (nm:=8) (.map false .i64 (Bu ij x24.2.2.2.2.2)) rfl (λ_ _ _ _ h_=>QS h_)) (Bi (st':=⟨[(2,(.int .i64 (7:Int)))],[(8,.obj (.map false .i64 (Bu ij x24.2.2.2.2.2))),(yK x24.2.1.Params x24.2.1.Ret x24.2.1.Blocks x24.2.2.1 x24.2.2.2.1 x24.2.2.2.2.1),(Ll 37006 211 x24.2.2.2.2.1.length)],[]⟩) [2] Q8 q)))))))) λh=>Af q iU Q8 (tN h))) λh=>tS h (gO (Bd (Bi [] Q8 q))))) λx25 h=>(match x25,h with | .inl ⟨l16,l17,i18,l19,i20,l21,l22⟩,h=>gA (Af q [2] Q8 (Qc (⟨[(2,L9)],(Q92 l16 l17 i18 l19 i20 l21 l22),[]⟩:St) (tS h (gK (e:=.ret) (H6 qf (Le.trans (fw (nm:=8) (.map false .i64 (Bu ij l16)) rfl (λ_ _ _ _ h_=>QS h_)) (Bi (st':=⟨[(2,L9)],[(8,.obj (.map false .i64 (Bu ij l16))),(yK l17 i18 l19 i20 l21 l22),(Ll 37006 211 l22.length)],[]⟩) [2] Q8 q))))))) | .inr r27,h=>O3 (λst' hk=>tS h (gK hk))))))))
abbrev zS:=(L8×TFunc×Int×Ar×List Be)
def G8(aa3:Int)(a3:TFunc)(a5:Int)(a7:Ar)(aB:List O9)(aA:List Be):Option zS:=
 (A0 (A1 aa3 a3.Blocks.length) (some ((⟨aa3,(((a3.Blocks.getD aa3.toNat default).Ops).length:Int)⟩:L8),a3,a5,a7,aA)))
variable{v28:zS}
theorem Ny(h:G8 v1 v0 v11 v2 v25 v12=some v28):sP 206 [(.ptr 30000 0),(Z5 v1)] [(Z1 v0.Params v0.Ret v0.Blocks v11 v2 9100005 v12),(Ll 37006 211 v12.length),(9100005,.obj (.map false .i64 (Bu (λ(v_:Ay)=>((Xd v_):AV)) v25)))] (.agg (NW v28.1)) [(Z1 v28.2.1.Params v28.2.1.Ret v28.2.1.Blocks v28.2.2.1 v28.2.2.2.1 9100005 v28.2.2.2.2),(Ll 37006 211 v28.2.2.2.2.length),(9100005,.obj (.map false .i64 (Bu (λ(v_:Ay)=>((Xd v_):AV)) v25)))]:=
 sG Tryz.func206 λΓ q=>Af q [0,1,4] qq (tV q [4] qq h λh=>tS h (Cc EC))
abbrev uO:=(TFunc×Int×Ar×List Be)
def Fa(aD:Int)(aa6:Gq)(aM:L8)(a3:TFunc)(a5:Int)(a7:Ar)(aB:List O9)(aA:List Be):Option uO:=
 (A0 (aA.length+([(⟨aD,aa6,aM⟩:Be)]:List Be).length<=room) (some (a3,a5,a7,(aA++([(⟨aD,aa6,aM⟩:Be)]:List Be)))))
variable{v29:uO}
theorem K3(h:Fa v1 v19 v24 v0 v11 v2 v25 v12=some v29):sP 205 [(.ptr 30000 0),(Z5 v1),(.agg (Bo v19)),(.agg (NW v24))] [(Z1 v0.Params v0.Ret v0.Blocks v11 v2 9100005 v12),(Ll 37006 211 v12.length),(9100005,.obj (.map false .i64 (Bu (λ(v_:Ay)=>((Xd v_):AV)) v25)))] (.tuple []) [(Z1 v29.1.Params v29.1.Ret v29.1.Blocks v29.2.1 v29.2.2.1 9100005 v29.2.2.2),(Ll 37006 211 v29.2.2.2.length),(9100005,.obj (.map false .i64 (Bu (λ(v_:Ay)=>((Xd v_):AV)) v25)))]:=
 sG Tryz.func205 λΓ q=>Af q TN kK (tC h λc1_ h=>gR q [] Iv [(17,(AV.list 5 Ol default ([(⟨v1,v19,v24⟩:Be)]:List Be) .exact)),(18,(AV.list 5 Ol default (v12++([(⟨v1,v19,v24⟩:Be)]:List Be)) (.own 37006)))] [] (c5 (Bp 5 Ol (default:Be) ([(⟨v1,v19,v24⟩:Be)]:List Be)) (Eq.refl v12.length) c1_ (Iz 5 37006 Ol (default:Be) v12 ([(⟨v1,v19,v24⟩:Be)]:List Be)) (E3 v12 ([(⟨v1,v19,v24⟩:Be)]:List Be))) (tS h (gK (e:=.normal) (H6 EC (Le.refl _ _)))))
def zt:List MK:=[(2,yN)]
def Qr(a1:B2):Option qZ:=
 ((Rr a1).bind λx1=>(bif (!x1) then(some ([]:List Gq)) else((Qw a1).bind λx2=>(some x2))))
theorem VI(h:Qr v6=some v21):sP 207 (fI v6) [] (Z7 v21) []:=
 sG Tryz.func207 λΓ q=>gR q [1] [1] zt [] (c1 (B0 2 Bo ((0:Int),(0:Int)))) (tB h λx1 y1 h=>tT q [1,5] [1] [(Z2 x1)] (c1 (BI y1)) (gC h (λh=>gR q [2] [] zt [] (c1 (B0 2 Bo ((0:Int),(0:Int)))) (Qc (⟨zt,[],[]⟩:St) (tS h (gK (e:=.ret) (H6 [] (show Le Γ _ (⟨[(2,(AV.list 2 Bo ((0:Int),(0:Int)) ([]:List Gq) .none))],[],[]⟩:St) from Le.trans (Bi (st':=⟨zt,[],[]⟩) [2] [] q) (I8 (.cons AVle.untag .nil) .nil))))))) λh=>tB h λx2 y2 h=>tT q [2] [] [(kx x2)] (c1 (EO y2)) (tS h (Cc []))))
abbrev qc:=(LR (Int×Ar×Int×List Ae×Int×Ar×List Be) (Ar×Int×List Ae×Int×Ar×List Be))
def Ep(a3:TFunc)(aB:List O9)(i1:Int)(i21:Int):S0->Option qc:=
 λ((i35,l36,i37,l38,i39,l40,l41):S0)=>(bif (decide (i35<(((((a3.Blocks.getD i1.toNat default).Phis).getD i21.toNat default).Args).length:Int))) then(A0 (A1 i35 ((((a3.Blocks.getD i1.toNat default).Phis).getD i21.toNat default).Args).length) ((Ex ((((a3.Blocks.getD i1.toNat default).Phis).getD i21.toNat default).Bits)).bind λx49=>(A0 (A1 i35 ((((a3.Blocks.getD i1.toNat default).Phis).getD i21.toNat default).From).length) ((G8 (((((a3.Blocks.getD i1.toNat default).Phis).getD i21.toNat default).From).getD i35.toNat 0) (⟨l36,i37,l38⟩:TFunc) i39 l40 aB l41).bind λx51=>((Fa (((((a3.Blocks.getD i1.toNat default).Phis).getD i21.toNat default).Args).getD i35.toNat 0) x49 x51.1 x51.2.1 x51.2.2.1 x51.2.2.2.1 aB x51.2.2.2.2).bind λx52=>(some (.next ((w64 (i35+1)),x52.1.Params,x52.1.Ret,x52.1.Blocks,x52.2.1,x52.2.2.1,x52.2.2.2)))))))) else(some (.done (l36,i37,l38,i39,l40,l41))))
def Er(a3:TFunc)(aB:List O9)(i1:Int):S0->Option qc:=
 λ((i21,l22,i23,l24,i25,l26,l27):S0)=>(bif (decide (i21<(((a3.Blocks.getD i1.toNat default).Phis).length:Int))) then(A0 (A1 i21 ((a3.Blocks.getD i1.toNat default).Phis).length) ((Ac (Ep a3 aB i1 i21) ((0:Int),l22,i23,l24,i25,l26,l27)).bind (λ(l42,i43,l44,i45,l46,l47)=>(some (.next ((w64 (i21+1)),l42,i43,l44,i45,l46,l47)))))) else(some (.done (l22,i23,l24,i25,l26,l27))))
def Es(a3:TFunc)(aB:List O9)(i1:Int)(i57:Int)(x71:List KD):S0->Option qc:=
 λ((i72,l73,i74,l75,i76,l77,l78):S0)=>(bif (decide (i72<(x71.length:Int))) then(A0 (A1 i72 x71.length) (A0 (A1 i72 ((((a3.Blocks.getD i1.toNat default).Ops).getD i57.toNat default).Args).length) ((Fa (((((a3.Blocks.getD i1.toNat default).Ops).getD i57.toNat default).Args).getD i72.toNat 0) (x71.getD i72.toNat ((0:Int),(0:Int))) (⟨i1,i57⟩:L8) (⟨l73,i74,l75⟩:TFunc) i76 l77 aB l78).bind λx87=>(some (.next ((w64 (i72+1)),x87.1.Params,x87.1.Ret,x87.1.Blocks,x87.2.1,x87.2.2.1,x87.2.2.2)))))) else(some (.done (l73,i74,l75,i76,l77,l78))))
def Et(a3:TFunc)(aB:List O9)(i1:Int):S0->Option qc:=
 λ((i57,l58,i59,l60,i61,l62,l63):S0)=>(bif (decide (i57<(((a3.Blocks.getD i1.toNat default).Ops).length:Int))) then(A0 (A1 i57 ((a3.Blocks.getD i1.toNat default).Ops).length) ((Qr (((a3.Blocks.getD i1.toNat default).Ops).getD i57.toNat default)).bind λx71=>((Ac (Es a3 aB i1 i57 x71) ((0:Int),l58,i59,l60,i61,l62,l63)).bind (λ(l79,i80,l81,i82,l83,l84)=>(some (.next ((w64 (i57+1)),l79,i80,l81,i82,l83,l84))))))) else(some (.done (l58,i59,l60,i61,l62,l63))))
def Eu(a3:TFunc)(aB:List O9):S0->Option qc:=
 λ((i1,l2,i3,l4,i5,l6,l7):S0)=>(bif (decide (i1<(a3.Blocks.length:Int))) then(Option.bind (α:=(Ar×Int×List Ae×Int×Ar×List Be)) (A0 (A1 i1 a3.Blocks.length) ((Ac (Er a3 aB i1) ((0:Int),l2,i3,l4,i5,l6,l7)).bind (λx55=>(match x55 with|(l28,i29,l30,i31,l32,l33)=>((Ac (Et a3 aB i1) ((0:Int),l28,i29,l30,i31,l32,l33)).bind (λx90=>(match x90 with|(l64,i65,l66,i67,l68,l69)=>(bif (((a3.Blocks.getD i1.toNat default).End.Kind:Int)==0) then((Ex i65).bind λx92=>((G8 i1 (⟨l64,i65,l66⟩:TFunc) i67 l68 aB l69).bind λx93=>((Fa ((a3.Blocks.getD i1.toNat default).End.Arg) x92 x93.1 x93.2.1 x93.2.2.1 x93.2.2.2.1 aB x93.2.2.2.2).bind λx94=>(some (x94.1.Params,x94.1.Ret,x94.1.Blocks,x94.2.1,x94.2.2.1,x94.2.2.2))))) else(bif (((a3.Blocks.getD i1.toNat default).End.Kind:Int)==2) then((Ex (1:Int)).bind λx95=>((G8 i1 (⟨l64,i65,l66⟩:TFunc) i67 l68 aB l69).bind λx96=>((Fa ((a3.Blocks.getD i1.toNat default).End.Arg) x95 x96.1 x96.2.1 x96.2.2.1 x96.2.2.2.1 aB x96.2.2.2.2).bind λx97=>(some (x97.1.Params,x97.1.Ret,x97.1.Blocks,x97.2.1,x97.2.2.1,x97.2.2.2))))) else(some (l64,i65,l66,i67,l68,l69))))))))))) (λx98=>(match x98 with|(l14,i15,l16,i17,l18,l19)=>(some (.next ((w64 (i1+1)),l14,i15,l16,i17,l18,l19)))))) else(some (.done (l2,i3,l4,i5,l6,l7))))
def Q95(a3:TFunc)(i1:Int):=(a3.Blocks.getD i1.toNat default)
def uZ(aB:List O9):=(Bu (λ(v_:Ay)=>((Xd v_):AV)) aB)
def H9(a3:TFunc)(a5:Int)(a7:Ar)(aB:List O9)(aA:List Be):Option uO:=
 ((Ac (Eu a3 aB) ((0:Int),a3.Params,a3.Ret,a3.Blocks,a5,a7,aA)).bind (λ(l8,i9,l10,i11,l12,l13)=>(some ((⟨l8,i9,l10⟩:TFunc),i11,l12,l13))))
theorem Vr(h:H9 v0 v1 v2 v25 v12=some v29):sP 161 OR [(Z1 v0.Params v0.Ret v0.Blocks v1 v2 9100005 v12),(Ll 37006 211 v12.length),(9100005,.obj (.map false .i64 (Bu (λ(v_:Ay)=>((Xd v_):AV)) v25)))] (.tuple []) [(Z1 v29.1.Params v29.1.Ret v29.1.Blocks v29.2.1 v29.2.2.1 9100005 v29.2.2.2),(Ll 37006 211 v29.2.2.2.length),(9100005,.obj (.map false .i64 (Bu (λ(v_:Ay)=>((Xd v_):AV)) v25)))]:=
 sG Tryz.func161 λΓ q=>Af q KN Iv (tL q h KN Iv (λu (i1,l2,i3,l4,i5,l6,l7)=>(Cl u [(18,(Z5 i1))] (YZ l2 i3 l4 i5 l6 l7 l7.length))) (λu (l8,i9,l10,i11,l12,l13)=>aG Γ (.exit 0) (Ni [] Iv u [] (YZ l8 i9 l10 i11 l12 l13 l13.length))) (λ⟨i1,l2,i3,l4,i5,l6,l7⟩ y h=>Af q [0,16,17,18,19] Iv (gC h (λh=>tB h λx98 y98 h=>gJ y98 (λ(l14,i15,l16,i17,l18,l19)=>aG Γ .normal (⟨[cA,(16,(UF v0.Blocks)),(bm 17 v0.Blocks.length),(18,(Z5 i1))],(yJ l14 i15 l16 i17 l18 l19 l19.length (uZ v25)),[]⟩:St)) (λy h=>tV q eU S2 h λh=>Af q eQ S2 (tL q h eQ S2 (λu (i21,l22,i23,l24,i25,l26,l27)=>(Cl u [(26,(Z5 i21))] (YZ l22 i23 l24 i25 l26 l27 l27.length))) (λu (l28,i29,l30,i31,l32,l33)=>aG Γ (.exit 2) (Ni eU S2 u [] (YZ l28 i29 l30 i31 l32 l33 l33.length))) (λ⟨i21,l22,i23,l24,i25,l26,l27⟩ y h=>Af q [0,2,3,16,17,18,24,25,26,27] S2 (gC h (λh=>tV q [0,2,3,5,16,17,18,24,25,26] II h λh=>Af q kE II (tL q h kE II (λu (i35,l36,i37,l38,i39,l40,l41)=>(Cl u [(33,(Z5 i35))] (YZ l36 i37 l38 i39 l40 l41 l41.length))) (λu (l42,i43,l44,i45,l46,l47)=>aG Γ (.exit 4) (Ni eQ S2 u [] (YZ l42 i43 l44 i45 l46 l47 l47.length))) (λ⟨i35,l36,i37,l38,i39,l40,l41⟩ y h=>Af q [0,2,3,5,16,17,18,24,25,26,31,32,33,34] II (gC h (λh=>tV q [0,2,3,5,6,7,16,17,18,24,25,26,31,32,33] II h λh=>tB h λx49 y49 h=>tC h λc50_ h=>tB h λx51 y51 h=>tB h λx52 y52 h=>tT q kE II [(yS x49),(Z62 x51.1 x51.2.1.Params x51.2.1.Ret x51.2.1.Blocks x51.2.2.1 x51.2.2.2.1 x51.2.2.2.2 x51.2.2.2.2.length (uZ v25)),(yM x52.1.Params x52.1.Ret x52.1.Blocks x52.2.1 x52.2.2.1 x52.2.2.2 x52.2.2.2.length (uZ v25))] (c4 (Mr y49) c50_ (Ny y51) (K3 y52)) (Af q kE II (tN h))) λh=>tS h (gO (Bd (Bi eQ S2 q))))) λx53 h=>(match x53,h with|⟨l42,i43,l44,i45,l46,l47⟩,h=>gA (Af q eQ S2 (tN h))))) λh=>tS h (gO (Bd (Bi eU S2 q))))) λx55 h=>(match x55,h with|⟨l28,i29,l30,i31,l32,l33⟩,h=>gA (Af q eR S2 (tL q h eR S2 (λu (i57,l58,i59,l60,i61,l62,l63)=>(Cl u [(56,(Z5 i57))] (YZ l58 i59 l60 i61 l62 l63 l63.length))) (λu (l64,i65,l66,i67,l68,l69)=>aG Γ (.exit 6) (Ni eU S2 u [] (YZ l64 i65 l66 i67 l68 l69 l69.length))) (λ⟨i57,l58,i59,l60,i61,l62,l63⟩ y h=>Af q [0,2,3,16,17,18,54,55,56,57] S2 (gC h (λh=>tV q [0,2,3,8,9,16,17,18,54,55,56] YI h λh=>tB h λx71 y71 h=>tT q kD YI [(kx x71)] (c1 (VI y71)) (tL q h kD YI (λu (i72,l73,i74,l75,i76,l77,l78)=>(Cl u [(64,(Z5 i72))] (YZ l73 i74 l75 i76 l77 l78 l78.length))) (λu (l79,i80,l81,i82,l83,l84)=>aG Γ (.exit 8) (Ni eR S2 u [] (YZ l79 i80 l81 i82 l83 l84 l84.length))) (λ⟨i72,l73,i74,l75,i76,l77,l78⟩ y h=>Af q [0,2,3,8,9,16,17,18,54,55,56,62,63,64,65] YI (gC h (λh=>tV q [0,2,3,8,9,10,11,16,17,18,54,55,56,62,63,64] [3,9,11,30000,37006,9100005] h λh=>tC h λc86_ h=>tB h λx87 y87 h=>tT q kD YI [(yM x87.1.Params x87.1.Ret x87.1.Blocks x87.2.1 x87.2.2.1 x87.2.2.2 x87.2.2.2.length (uZ v25))] (c2 c86_ (K3 y87)) (Af q kD YI (tN h))) λh=>tS h (gO (Bd (Bi eR S2 q))))) λx88 h=>(match x88,h with|⟨l79,i80,l81,i82,l83,l84⟩,h=>gA (Af q eR S2 (tN h))))) λh=>tS h (gO (Bd (Bi eU S2 q))))) λx90 h=>(match x90,h with|⟨l64,i65,l66,i67,l68,l69⟩,h=>gA (tW q [0,2,3,16,17,18,84] S2 [0,2,3,16,17,18,84,85] S2 (gC h (λh=>tB h λx92 y92 h=>tB h λx93 y93 h=>tB h λx94 y94 h=>tT q KN Iv [(yS x92),(Z62 x93.1 x93.2.1.Params x93.2.1.Ret x93.2.1.Blocks x93.2.2.1 x93.2.2.2.1 x93.2.2.2.2 x93.2.2.2.2.length (uZ v25)),(yM x94.1.Params x94.1.Ret x94.1.Blocks x94.2.1 x94.2.2.1 x94.2.2.2 x94.2.2.2.length (uZ v25))] (c3 (Mr y92) (Ny y93) (K3 y94)) (tS h (gK (Bd Iq)))) λh=>Af q [0,2,3,16,17,18,101] S2 (gC h (λh=>tB h λx95 y95 h=>tB h λx96 y96 h=>tB h λx97 y97 h=>tT q KN Iv [(yS x95),(Z62 x96.1 x96.2.1.Params x96.2.1.Ret x96.2.1.Blocks x96.2.2.1 x96.2.2.2.1 x96.2.2.2.2 x96.2.2.2.2.length (uZ v25)),(yM x97.1.Params x97.1.Ret x97.1.Blocks x97.2.1 x97.2.2.1 x97.2.2.2 x97.2.2.2.length (uZ v25))] (c3 (Mr y95) (Ny y96) (K3 y97)) (tS h (gK (Bd Iq)))) λh=>tS h (gK (Bd (Bi KN Iv q)))))))))))) (match x98,h with|⟨l14,i15,l16,i17,l18,l19⟩,h=>gA (Af q KN Iv (tN h)))) λh=>tS h (gO (Bd (Bi [] Iv q))))) λx100 h=>(match x100,h with|⟨l8,i9,l10,i11,l12,l13⟩,h=>um (λst' hl101=>tS h (gK (e:=.normal) (H6 EC hl101)))))
def Ls(aP:Be)(a3:TFunc)(a5:Int)(a7:Ar)(aB:List O9)(aA:List Be):Option CF:=
 (some ((Ed aB aP.v),a3,a5,a7,aA))
variable{v30:Be}
theorem Vu(h:Ls v30 v0 v1 v2 v25 v12=some v23):sP 162 [(.ptr 30000 0),(.agg (Ol v30))] [(Z1 v0.Params v0.Ret v0.Blocks v1 v2 9100005 v12),(Ll 37006 211 v12.length),(9100005,.obj (.map false .i64 (Bu (λ(v_:Ay)=>((Xd v_):AV)) v25)))] (.bool v23.1) [(Z1 v23.2.1.Params v23.2.1.Ret v23.2.1.Blocks v23.2.2.1 v23.2.2.2.1 9100005 v23.2.2.2.2),(Ll 37006 211 v23.2.2.2.2.length),(9100005,.obj (.map false .i64 (Bu (λ(v_:Ay)=>((Xd v_):AV)) v25)))]:=
 sG Tryz.func162 λΓ q=>Af q Rj S2 (gR q [6] Iv [(14,(.tuple [(uc v25 v30.v),(.bool (Ed v25 v30.v))]))] [] (c1 (show(AVle (.tuple [Fx (.agg [L9,L9,L9,L9]) (Bu (λ(v_:Ay)=>((Xd v_):AV)) v25) v30.v,.bool (Ed (Bu (λ(v_:Ay)=>((Xd v_):AV)) v25) v30.v)]) (.tuple [(uc v25 v30.v),(.bool (Ed v25 v30.v))])) from(QN (f:=(λ(v_:Ay)=>((Xd v_):AV))) (l:=v25) (AVle.refl _) rfl))) (Af q [4] Iv (tS h (Cc EC))))
def Np(aP:Be)(a3:TFunc)(a5:Int)(a7:Ar)(aB:List O9)(aA:List Be):Option CF:=
 (some (((((Fx (default:Ay) aB aP.v).shape.1:Int)==aP.shape.1)&&((((Fx (default:Ay) aB aP.v).shape.2:Int)==aP.shape.2)&&true)),a3,a5,a7,aA))
theorem Zk(h:Np v30 v0 v1 v2 v25 v12=some v23):sP 163 [(.ptr 30000 0),(.agg (Ol v30))] [(Z1 v0.Params v0.Ret v0.Blocks v1 v2 9100005 v12),(Ll 37006 211 v12.length),(9100005,.obj (.map false .i64 (Bu (λ(v_:Ay)=>((Xd v_):AV)) v25)))] (.bool v23.1) [(Z1 v23.2.1.Params v23.2.1.Ret v23.2.1.Blocks v23.2.2.1 v23.2.2.2.1 9100005 v23.2.2.2.2),(Ll 37006 211 v23.2.2.2.2.length),(9100005,.obj (.map false .i64 (Bu (λ(v_:Ay)=>((Xd v_):AV)) v25)))]:=
 sG Tryz.func163 λΓ q=>Af q Rj S2 (gR q [4] Iv [(11,(uc v25 v30.v))] [] (c1 (show(AVle (Fx (.agg [L9,L9,L9,L9]) (Bu (λ(v_:Ay)=>((Xd v_):AV)) v25) v30.v) (uc v25 v30.v)) from(ai (f:=(λ(v_:Ay)=>((Xd v_):AV))) (l:=v25) (AVle.refl _) rfl))) (tS h (Cc EC)))
def Cn(aH:Ar)(aD:Int):Int->Option (LR Int (Unit ⊕ Int)):=
 λ(i1:Int)=>(bif (decide (i1<(aH.length:Int))) then(A0 (A1 i1 aH.length) (bif (aD==(aH.getD i1.toNat 0)) then(some (.done (.inr i1))) else(some (.next (w64 (i1+1)))))) else(some (.done (.inl ()))))
def Xc(Γ:H5)(aH:Ar)(aD:Int)(r:Int):Exit->St->Prop:=fK Tryz.prog Γ Tryz.f173.results.toList [] (.int .i64 r) []
def G3(aH:Ar)(aD:Int):Option Int:=
 ((Ac (Cn aH aD) (0:Int)).bind (λx3=>(match x3 with|(.inl _)=>(some (-1:Int))|(.inr r5)=>(some r5))))
theorem Wn(h:G3 v2 v1=some v11):sP 173 [(Z6 v2),(Z5 v1)] [] (.int .i64 v11) []:=
 sG Tryz.func173 λΓ q=>tW q Gn [] IM [] (tL q h IM [] (λu i1=>(Cl u [(8,(Z5 i1))] [])) (λu x_=>match x_ with|(.inl _)=>aG Γ (.exit 0) (⟨[],[],[]⟩:St)|(.inr r_)=>aR (Xc Γ v2 v1 r_)) (λi1 y h=>Af q iV [] (gC h (λh=>Af q iW [] (tV q iI [] h λh=>gC h (λh=>Af q [4] [] (tS h (gO (Lm (H6 [] (Le.refl _ _)))))) λh=>Af q IM [] (tN h))) λh=>tS h (gO (Bd (Bi [] [] q))))) λx3 h=>(match x3,h with | .inl _,h=>gA (Af q [4] [] (tS h (Cc []))) | .inr r5,h=>O3 (λst' hk=>tS h (gK hk))))
def My(a8:Ar)(aM:Int):Option Bool:=
 (some (bif (decide ((0:Int)<=aM)) then(decide (aM<(a8.length:Int))) else false))
theorem BE(h:My v2 v1=some v3):sP 294 [(Z6 v2),(Z5 v1)] [] (.bool v3) []:=
 sG Tryz.func294 λΓ q=>Af q Gn [] (tU q [4] [] (Vm ((decide ((0:Int)<=v1))==true) (c1 (Nh (decide ((0:Int)<=v1))))) (tS h (Cc [])))
def D0(a8:Ar)(aa9:Int)(aa1:Int):CE->Option (LR (Int×Ar) (Ar ⊕ (Bool×Ar))):=
 λ((i1,l2):CE)=>(bif (i1 !=aa1) then(A0 (A1 i1 l2.length) (bif ((l2.getD i1.toNat 0)!=0) then(A0 (A1 i1 l2.length) (some (.done (.inr (((l2.getD i1.toNat 0)!=(w64 (aa9+1))),l2))))) else(A0 (A1 i1 a8.length) ((My a8 (a8.getD i1.toNat 0)).bind λx7=>(bif (!x7) then(some (.done (.inr (false,l2)))) else(A0 (A1 i1 l2.length) (A0 (A1 i1 a8.length) (some (.next ((a8.getD i1.toNat 0),(l2.set i1.toNat (w64 (aa9+1))))))))))))) else(some (.done (.inl l2))))
def bn(Γ:H5)(a8:Ar)(aaE:Ar)(aa9:Int)(aa1:Int)(r:qX):Exit->St->Prop:=fK Tryz.prog Γ Tryz.f293.results.toList [(Z4 34001 aaE)] (.bool r.1) [(Z4 34001 r.2)]
def Uw(a8:Ar)(aaE:Ar)(aa9:Int)(aa1:Int):Option qX:=
 ((Ac (D0 a8 aa9 aa1) (aa9,aaE)).bind (λx10=>(match x10 with|(.inl l3)=>(some (true,l3))|(.inr r12)=>(some r12))))
variable{v31:qX}
theorem ao(h:Uw v2 v17 v1 v11=some v31):sP 293 [(Z6 v2),(.vsl 34001 v17.length),(Z5 v1),(Z5 v11)] [(Z4 34001 v17)] (.bool v31.1) [(Z4 34001 v31.2)]:=
 sG Tryz.func293 λΓ q=>tW q [0,1,2,3] [34001] [0,1,2,3,9] [34001] (Af q bV [34001] (tL q h bV [34001] (λu (i1,l2)=>(Cl u [(1,(.vsl 34001 l2.length)),(10,(Z5 i1))] [(Z4 34001 l2)])) (λu x_=>match x_ with|(.inl l3)=>aG Γ (.exit 0) (⟨[],[(Z4 34001 l3)],[]⟩:St)|(.inr r_)=>aR (bn Γ v2 v17 v1 v11 r_)) (λ⟨i1,l2⟩ y h=>Af q [0,1,3,9,10,16] [34001] (gC h (λh=>tC h λc4_ h=>tU q [0,1,3,9,10,25] [34001] (c2 c4_ (Eq.refl l2.length)) (gC h (λh=>tC h λc5_ h=>tU q [8] [34001] (c2 c5_ (Eq.refl l2.length)) (tS h (gO (Lm (H6 iQ (Le.refl _ _)))))) λh=>tC h λc6_ h=>tB h λx7 y7 h=>tT q [0,1,3,9,10,38] [34001] [(Z2 x7)] (c2 c6_ (BE y7)) (gC h (λh=>Af q [8] [34001] (tS h (gO (Lm (H6 iQ (Le.refl _ _)))))) λh=>tC h λc8_ h=>tU q bV [34001] (c2 c8_ (Eq.refl l2.length)) (gLe (Le.trans (Sr 34001 (show ∀ k_,k_<l2.length->AVleL ((λi_=>AV.eraseAll (λn_=>Bw n_ [34001]) ((Fc (λi=>Ap (l2.getD i 0)) i1.toNat 0 [(.int .i64 (w64 (v1+1)))]) i_)) k_) ((λi=>Ap ((l2.set i1.toNat (w64 (v1+1))).getD i 0)) k_) from(Bh (C8 ..).symm (λk_ hk_=>(Bg (AV.eraseAll (λn_=>Bw n_ [34001])) ((Fu (λ_ _=>rfl) (Hv c8_) rfl) k_ hk_)).trans rfl)))) (Sa (λ(k_:Nat) u=>(Cl u [(1,(.vsl 34001 k_))] [(34001,.arr 1 3 k_ (λi=>Ap ((l2.set i1.toNat (w64 (v1+1))).getD i 0)))])) (show l2.length=(l2.set i1.toNat (w64 (v1+1))).length from(C8 ..).symm))) (tV q bV [34001] h λh=>tN h))))) λh=>tS h (gO (Bd (Bi [] [34001] q))))) λx10 h=>(match x10,h with | .inl l3,h=>gA (Af q [8] [34001] (tS h (Cc iQ))) | .inr r12,h=>O3 (λst' hk=>tS h (gK hk)))))
def Hb(a8:Ar)(x1:Int):CE->Option (LR (Int×Ar) (Unit ⊕ Bool)):=
 λ((i3,l4):CE)=>(bif (decide (i3<(a8.length:Int))) then(A0 (A1 i3 a8.length) ((bif (((a8.getD i3.toNat 0)!=-2)==true) then Uw a8 l4 i3 x1 else some (false,[])).bind λx6=>(A0 ((((a8.getD i3.toNat 0)!=-2)==true)=true->(l4.length=x6.2.length)) (bif (bif ((a8.getD i3.toNat 0)!=-2) then(!x6.1) else false) then(some (.done (.inr false))) else(some (.next ((w64 (i3+1)),(bif (((a8.getD i3.toNat 0)!=-2)==true) then x6.2 else l4)))))))) else(some (.done (.inl ()))))
def YT(Γ:H5)(a8:Ar)(r:Bool):Exit->St->Prop:=fK Tryz.prog Γ Tryz.f284.results.toList [] (.bool r) []
def rC(a8:Ar)(i3:Int):=(((a8.getD i3.toNat 0)!=-2)==true)
def Tc(a8:Ar):Option Bool:=
 ((G3 a8 (-1:Int)).bind λx1=>(bif (decide (x1<0)) then(some false) else(A0 (0<=(a8.length:Int)/\(a8.length:Int)<=(a8.length:Int)/\(a8.length:Int)<=(room:Int)) ((Ac (Hb a8 x1) ((0:Int),(List.replicate (a8.length:Int).toNat (0:Int)))).bind (λx8=>(match x8 with|(.inl _)=>(some true)|(.inr r10)=>(some r10)))))))
theorem VD(h:Tc v2=some v3):sP 284 [(Z6 v2)] [] (.bool v3) []:=
 sG Tryz.func284 λΓ q=>Af q [0] [] (tB h λx1 y1 h=>tT q Rj [] [(ZA x1)] (c1 (Wn y1)) (Af q [0,3,9] [] (gC h (λh=>Af q [2] [] (tS h (Cc []))) λh=>tV q S9 [12] h λh=>by exact gLe (Le.trans (Sr 12 (show ∀ k_,k_<((v2.length:Int).toNat)->AVleL ((λi_=>AV.eraseAll (λn_=>Bw n_ [12]) ((λ_=>[L9]) i_)) k_) ((λi=>Ap ((List.replicate (v2.length:Int).toNat (0:Int)).getD i 0)) k_) from(λk hk=>M7 (e:=Ap) (d:=(0:Int)) (.cons (AVle.refl _) .nil) _ k (M8 hk)))) (Sa (λ(k_:Nat) u=>(Cl u [(4,(.vsl 12 k_))] (Z72 12 k_ v2.length))) (show(v2.length:Int).toNat=(List.replicate (v2.length:Int).toNat (0:Int)).length from(N9 ..).symm))) (Af q iO [12] (tL q h iO [12] (λu (i3,l4)=>(Cl u [(4,(.vsl 12 l4.length)),(15,(Z5 i3))] [(Z4 12 l4)])) (λu x_=>match x_ with|(.inl _)=>aG Γ (.exit 0) (⟨[],[],[]⟩:St)|(.inr r_)=>aR (YT Γ v2 r_)) (λ⟨i3,l4⟩ y h=>Af q [0,3,4,14,15,16] [12] (gC h (λh=>Af q [0,3,4,5,14,15] [12] (tC h λc5_ h=>tB h λx6 y6 h=>tC h λc7_ h=>tT q [0,3,4,14,15,30] [12] [⟨[(12,34001)],[],(.bool x6.1),[(Z4 34001 x6.2)],[],[]⟩] (ci c5_ (ZR (rC v2 i3) (c3 (λ(hg:(rC v2 i3)=true)=>(ao (Bq hg y6))) (gI (rC v2 i3)) (Nh ((v2.getD i3.toNat 0)!=-2))))) (gLe (Le.trans (Sr 12 (show ∀ k_,k_<(bif (rC v2 i3) then x6.2.length else l4.length)->AVleL ((λi_=>AV.eraseAll (λn_=>Bw n_ [12]) ((λi=>bif (rC v2 i3) then(λi=>Ap (x6.2.getD i 0)) i else(λi=>Ap (l4.getD i 0)) i) i_)) k_) ((λi=>Ap ((bif (rC v2 i3) then x6.2 else l4).getD i 0)) k_) from(Bh iv (λk_ hk_=>(Bg (AV.eraseAll (λn_=>Bw n_ [12])) ((λ_ _=>sQ) k_ hk_)).trans rfl)))) (Le.trans (Sa (λ(k_:Nat) u=>(Cl u [] [(12,.arr 1 3 k_ (λi=>Ap ((bif (rC v2 i3) then x6.2 else l4).getD i 0)))])) (show(bif (rC v2 i3) then x6.2.length else l4.length)=(bif (rC v2 i3) then x6.2 else l4).length from iv)) (Sa (λ(k_:Nat) u=>(Cl u [(4,(.vsl 12 k_))] [])) (show l4.length=(bif (rC v2 i3) then x6.2 else l4).length from(sR c7_))))) (gC h (λh=>Af q [2] [] (tS h (gO (Lm (H6 [] (Le.refl _ _)))))) λh=>Af q iO [12] (tN h))))) λh=>tS h (gO (Bd (Bi [] [] q))))) λx8 h=>(match x8,h with | .inl _,h=>gA (Af q [2] [] (tS h (Cc []))) | .inr r10,h=>O3 (λst' hk=>tS h (gK hk))))))))
def Nr(a8:Ar)(aM:Int):Option Bool:=
 ((My a8 aM).bind λx1=>(A0 ((x1==true)=true->(A1 aM a8.length)) (some (bif x1 then((a8.getD aM.toNat 0)!=-2) else false))))
theorem Y0(h:Nr v2 v1=some v3):sP 285 [(Z6 v2),(Z5 v1)] [] (.bool v3) []:=
 sG Tryz.func285 λΓ q=>Af q Gn [] (tB h λx1 y1 h=>tC h λc2_ h=>tT q [4] [] [(Z2 x1)] (ci (BE y1) (M4 (x1==true) (ci c2_ (M4 (x1==true) (c1 (Nh x1)))))) (tS h (Cc [])))
def Uv(a8:Ar)(aI:Int)(aL:Int):Option Bool:=
 ((Tc a8).bind λx1=>((bif (x1==true) then Nr a8 aI else some false).bind λx2=>((bif ((bif x1 then x2 else false)==true) then Nr a8 aL else some false).bind λx3=>(some (bif (bif x1 then x2 else false) then x3 else false)))))
theorem an(h:Uv v2 v1 v11=some v3):sP 245 [(Z6 v2),(Z5 v1),(Z5 v11)] [] (.bool v3) []:=
 sG Tryz.func245 λΓ q=>Af q TU [] (tB h λx1 y1 h=>tB h λx2 y2 h=>tB h λx3 y3 h=>tT q [6] [] [(Z2 x1),(Z2 x2),(Z2 x3)] (ci (VD y1) (M4 (x1==true) (ed (λ(hg:(x1==true)=true)=>(Y0 (Bq hg y2))) (Nh x1) (M4 ((bif x1 then x2 else false)==true) (c2 (λ(hg:((bif x1 then x2 else false)==true)=true)=>(Y0 (Bq hg y3))) (Nh (bif x1 then x2 else false))))))) (tS h (Cc [])))
def Xv(a8:Ar)(aI:Int)(aL:Int):Option Bool:=
 ((Uv a8 aI aL).bind λx1=>((bif (x1==true) then Rq a8 aI aL else some (0:Int)).bind λx2=>(some (bif x1 then(x2==aI) else false))))
theorem dX(h:Xv v2 v1 v11=some v3):sP 208 [(Z6 v2),(Z5 v1),(Z5 v11)] [] (.bool v3) []:=
 sG Tryz.func208 λΓ q=>Af q TU [] (tB h λx1 y1 h=>tB h λx2 y2 h=>tT q [6] [] [(Z2 x1),(ZA x2)] (ci (an y1) (Vm (x1==true) (ci (λ(hg:(x1==true)=true)=>(LP (Bq hg y2))) (M4 (x1==true) (c1 (Nh x1)))))) (tS h (Cc [])))
def Ib(aP:Be)(a3:TFunc)(a5:Int)(a7:Ar)(aB:List O9)(aA:List Be):Option CF:=
 (bif (((Fx (default:Ay) aB aP.v).place.block:Int)==aP.place.block) then(some ((decide (((Fx (default:Ay) aB aP.v).place.at_:Int)<aP.place.at_)),a3,a5,a7,aA)) else((Xv a7 ((Fx (default:Ay) aB aP.v).place.block) aP.place.block).bind λx1=>(some (x1,a3,a5,a7,aA))))
theorem Vt(h:Ib v30 v0 v1 v2 v25 v12=some v23):sP 164 [(.ptr 30000 0),(.agg (Ol v30))] [(Z1 v0.Params v0.Ret v0.Blocks v1 v2 9100005 v12),(Ll 37006 211 v12.length),(9100005,.obj (.map false .i64 (Bu (λ(v_:Ay)=>((Xd v_):AV)) v25)))] (.bool v23.1) [(Z1 v23.2.1.Params v23.2.1.Ret v23.2.1.Blocks v23.2.2.1 v23.2.2.2.1 9100005 v23.2.2.2.2),(Ll 37006 211 v23.2.2.2.2.length),(9100005,.obj (.map false .i64 (Bu (λ(v_:Ay)=>((Xd v_):AV)) v25)))]:=
 sG Tryz.func164 λΓ q=>Af q Rj S2 (gR q [0,3,5] II [(12,(uc v25 v30.v))] [] (c1 (show(AVle (Fx (.agg [L9,L9,L9,L9]) (Bu (λ(v_:Ay)=>((Xd v_):AV)) v25) v30.v) (uc v25 v30.v)) from(ai (f:=(λ(v_:Ay)=>((Xd v_):AV))) (l:=v25) (AVle.refl _) rfl))) (Af q [0,3,5,19] II (gC h (λh=>Af q [4] Iv (tS h (Cc EC))) λh=>tB h λx1 y1 h=>tT q [4] Iv [(Z2 x1)] (c1 (dX y1)) (tS h (Cc EC)))))
abbrev wx:=(LR (Int×Ar×Int×List Ae×Int×Ar×List Be) ((Ar×Int×List Ae×Int×Ar×List Be) ⊕ (Ar×Int×List Ae×Int×Ar×List Be)))
def F6(aB:List O9)(x8:uO):S0->Option wx:=
 λ((i9,l10,i11,l12,i13,l14,l15):S0)=>(bif (decide (i9<(x8.2.2.2.length:Int))) then(A0 (A1 i9 x8.2.2.2.length) ((Ls (x8.2.2.2.getD i9.toNat default) (⟨l10,i11,l12⟩:TFunc) i13 l14 aB l15).bind λx29=>(bif (!x29.1) then(some (.done (.inr (x29.2.1.Params,x29.2.1.Ret,x29.2.1.Blocks,x29.2.2.1,x29.2.2.2.1,x29.2.2.2.2)))) else(some (.next ((w64 (i9+1)),x29.2.1.Params,x29.2.1.Ret,x29.2.1.Blocks,x29.2.2.1,x29.2.2.2.1,x29.2.2.2.2)))))) else(some (.done (.inl (l10,i11,l12,i13,l14,l15)))))
def F7(aB:List O9)(l21:List Be):S0->Option wx:=
 λ((i32,l33,i34,l35,i36,l37,l38):S0)=>(bif (decide (i32<(l21.length:Int))) then(A0 (A1 i32 l21.length) ((Np (l21.getD i32.toNat default) (⟨l33,i34,l35⟩:TFunc) i36 l37 aB l38).bind λx52=>(bif (!x52.1) then(some (.done (.inr (x52.2.1.Params,x52.2.1.Ret,x52.2.1.Blocks,x52.2.2.1,x52.2.2.2.1,x52.2.2.2.2)))) else(some (.next ((w64 (i32+1)),x52.2.1.Params,x52.2.1.Ret,x52.2.1.Blocks,x52.2.2.1,x52.2.2.2.1,x52.2.2.2.2)))))) else(some (.done (.inl (l33,i34,l35,i36,l37,l38)))))
def F8(aB:List O9)(l44:List Be):S0->Option wx:=
 λ((i55,l56,i57,l58,i59,l60,l61):S0)=>(bif (decide (i55<(l44.length:Int))) then(A0 (A1 i55 l44.length) ((Ib (l44.getD i55.toNat default) (⟨l56,i57,l58⟩:TFunc) i59 l60 aB l61).bind λx75=>(bif (!x75.1) then(some (.done (.inr (x75.2.1.Params,x75.2.1.Ret,x75.2.1.Blocks,x75.2.2.1,x75.2.2.2.1,x75.2.2.2.2)))) else(some (.next ((w64 (i55+1)),x75.2.1.Params,x75.2.1.Ret,x75.2.1.Blocks,x75.2.2.1,x75.2.2.2.1,x75.2.2.2.2)))))) else(some (.done (.inl (l56,i57,l58,i59,l60,l61)))))
def Pw :S0->Option (LR (Int×Ar×Int×List Ae×Int×Ar×List Be) (Int×TFunc×Int×Ar×List Be)):=
 λ(s_:S0)=>match s_ with|(i1,l2,i3,l4,i5,l6,l7)=>(some (.done (i1,(⟨l2,i3,l4⟩:TFunc),i5,l6,l7)))
def AB(Γ:H5)(a3:TFunc)(a5:Int)(a7:Ar)(aB:List O9)(aA:List Be)(r:mR):Exit->St->Prop:=fK Tryz.prog Γ Tryz.f108.results.toList [(Z1 a3.Params a3.Ret a3.Blocks a5 a7 9100005 aA),(Ll 37006 211 aA.length),(9100005,.obj (.map false .i64 (Bu (λ(v_:Ay)=>((Xd v_):AV)) aB)))] (Z5 r.1) [(Z1 r.2.1.Params r.2.1.Ret r.2.1.Blocks r.2.2.1 r.2.2.2.1 9100005 r.2.2.2.2),(Ll 37006 211 r.2.2.2.2.length),(9100005,.obj (.map false .i64 (Bu (λ(v_:Ay)=>((Xd v_):AV)) aB)))]
def yG(aB:List O9):=(Bu (λ(v_:Ay)=>((Xd v_):AV)) aB)
def Kh(a3:TFunc)(a5:Int)(a7:Ar)(aB:List O9)(aA:List Be):Option mR:=
 ((Rx (S:=S0) (X:=mR) ((H9 a3 a5 a7 aB aA).bind λx8=>((Ac (F6 aB x8) ((0:Int),x8.1.Params,x8.1.Ret,x8.1.Blocks,x8.2.1,x8.2.2.1,x8.2.2.2)).bind (λx30=>(match x30 with|(.inl (l16,i17,l18,i19,l20,l21))=>((Ac (F7 aB l21) ((0:Int),l16,i17,l18,i19,l20,l21)).bind (λx53=>(match x53 with|(.inl (l39,i40,l41,i42,l43,l44))=>((Ac (F8 aB l44) ((0:Int),l39,i40,l41,i42,l43,l44)).bind (λx76=>(match x76 with|(.inl (l62,i63,l64,i65,l66,l67))=>(some (.done ((0:Int),(⟨l62,i63,l64⟩:TFunc),i65,l66,l67)))|(.inr (l68,i69,l70,i71,l72,l73))=>(some (.next ((7:Int),l68,i69,l70,i71,l72,l73))))))|(.inr (l45,i46,l47,i48,l49,l50))=>(some (.next ((6:Int),l45,i46,l47,i48,l49,l50))))))|(.inr (l22,i23,l24,i25,l26,l27))=>(some (.next ((7:Int),l22,i23,l24,i25,l26,l27))))))) Pw).bind (λx81=>(some x81)))
theorem Zm(h:Kh v0 v1 v2 v25 v12=some v13):sP 108 OR [(Z1 v0.Params v0.Ret v0.Blocks v1 v2 9100005 v12),(Ll 37006 211 v12.length),(9100005,.obj (.map false .i64 (Bu (λ(v_:Ay)=>((Xd v_):AV)) v25)))] (Z5 v13.1) [(Z1 v13.2.1.Params v13.2.1.Ret v13.2.1.Blocks v13.2.2.1 v13.2.2.2.1 9100005 v13.2.2.2.2),(Ll 37006 211 v13.2.2.2.2.length),(9100005,.obj (.map false .i64 (Bu (λ(v_:Ay)=>((Xd v_):AV)) v25)))]:=
 sG Tryz.func108 λΓ q=>Af q [0] Iv (tB h λx81 y81 h=>gS y81 (λ(s_:S0)=>match s_ with|(i1,l2,i3,l4,i5,l6,l7)=>0) (λ(s_:S0)=>match s_ with|(i1,l2,i3,l4,i5,l6,l7)=>(⟨[(4,(Z5 i1))],(yJ l2 i3 l4 i5 l6 l7 l7.length (yG v25)),[]⟩:St)) (λr_=>aR (AB Γ v0 v1 v2 v25 v12 r_)) (λy h=>tB h λx8 y8 h=>tT q [0] Iv [(yM x8.1.Params x8.1.Ret x8.1.Blocks x8.2.1 x8.2.2.1 x8.2.2.2 x8.2.2.2.length (yG v25))] (c1 (Vr y8)) (tW q Rj S2 Rj S2 (Af q FC Iv (gU 3 (Af q bY Iv (oi true (tU q ib V7 (c1 (show(A1 (0:Int) 3) from(by decide))) (tW q iP V7 IJ V7 (tL q h IJ V7 (λu (i9,l10,i11,l12,i13,l14,l15)=>(Cl u [(32,(Z5 i9))] (YZ l10 i11 l12 i13 l14 l15 l15.length))) (λu x_=>match x_ with|(.inl (l16,i17,l18,i19,l20,l21))=>aG Γ (.exit 2) (Ni FC Iv u [] (YZ l16 i17 l18 i19 l20 l21 l21.length))|(.inr (l22,i23,l24,i25,l26,l27))=>aG Γ (.goto 0) (Ni [4] Iv u [] (YZ l22 i23 l24 i25 l26 l27 l27.length))) (λ⟨i9,l10,i11,l12,i13,l14,l15⟩ y h=>Af q qy V7 (gC h (λh=>tV q q8 iB h λh=>tB h λx29 y29 h=>tT q qz V7 [(Z79 x29.1 x29.2.1.Params x29.2.1.Ret x29.2.1.Blocks x29.2.2.1 x29.2.2.2.1 x29.2.2.2.2 x29.2.2.2.2.length (yG v25))] (c1 (Vu y29)) (gC h (λh=>tS h (gO (Bd (Bi [4] Iv q)))) λh=>Af q IJ V7 (tN h))) λh=>tS h (gO (Bd (Bi FC Iv q))))) λx30 h=>(match x30,h with | .inl ⟨l16,i17,l18,i19,l20,l21⟩,h=>gA (tW q FC Iv bY Iv (oi true (tU q ib V7 (c1 (show(A1 (1:Int) 3) from(by decide))) (tW q iP V7 IJ V7 (tL q h IJ V7 (λu (i32,l33,i34,l35,i36,l37,l38)=>(Cl u [(32,(Z5 i32))] (YZ l33 i34 l35 i36 l37 l38 l38.length))) (λu x_=>match x_ with|(.inl (l39,i40,l41,i42,l43,l44))=>aG Γ (.exit 2) (Ni FC Iv u [] (YZ l39 i40 l41 i42 l43 l44 l44.length))|(.inr (l45,i46,l47,i48,l49,l50))=>aG Γ (.goto 0) (Ni [4] Iv u [] (YZ l45 i46 l47 i48 l49 l50 l50.length))) (λ⟨i32,l33,i34,l35,i36,l37,l38⟩ y h=>Af q qy V7 (gC h (λh=>tV q q8 iB h λh=>tB h λx52 y52 h=>tT q qz V7 [(Z79 x52.1 x52.2.1.Params x52.2.1.Ret x52.2.1.Blocks x52.2.2.1 x52.2.2.2.1 x52.2.2.2.2 x52.2.2.2.2.length (yG v25))] (c1 (Zk y52)) (gC h (λh=>tS h (gO (Bd (Bi [4] Iv q)))) λh=>Af q IJ V7 (tN h))) λh=>tS h (gO (Bd (Bi FC Iv q))))) λx53 h=>(match x53,h with | .inl ⟨l39,i40,l41,i42,l43,l44⟩,h=>gA (tW q FC Iv bY Iv (oi true (tU q ib V7 (c1 (show(A1 (2:Int) 3) from(by decide))) (tW q iP V7 IJ V7 (tL q h IJ V7 (λu (i55,l56,i57,l58,i59,l60,l61)=>(Cl u [(32,(Z5 i55))] (YZ l56 i57 l58 i59 l60 l61 l61.length))) (λu x_=>match x_ with|(.inl (l62,i63,l64,i65,l66,l67))=>aG Γ (.exit 2) (Ni FC Iv u [] (YZ l62 i63 l64 i65 l66 l67 l67.length))|(.inr (l68,i69,l70,i71,l72,l73))=>aG Γ (.goto 0) (Ni [4] Iv u [] (YZ l68 i69 l70 i71 l72 l73 l73.length))) (λ⟨i55,l56,i57,l58,i59,l60,l61⟩ y h=>Af q qy V7 (gC h (λh=>tV q q8 iB h λh=>tB h λx75 y75 h=>tT q qz V7 [(Z79 x75.1 x75.2.1.Params x75.2.1.Ret x75.2.1.Blocks x75.2.2.1 x75.2.2.2.1 x75.2.2.2.2 x75.2.2.2.2.length (yG v25))] (c1 (Vt y75)) (gC h (λh=>tS h (gO (Bd (Bi [4] Iv q)))) λh=>Af q IJ V7 (tN h))) λh=>tS h (gO (Bd (Bi FC Iv q))))) λx76 h=>(match x76,h with | .inl ⟨l62,i63,l64,i65,l66,l67⟩,h=>gA (tW q FC Iv bY Iv (oi false (Af q [2] Iv (tS h (ee (Lm (H6 EC (Le.refl _ _)))))))) | .inr ⟨l68,i69,l70,i71,l72,l73⟩,h=>um (λst' hl78=>tS h (fg (Le.trans hl78 Iq))))))))) | .inr ⟨l45,i46,l47,i48,l49,l50⟩,h=>um (λst' hl79=>tS h (fg (Le.trans hl79 Iq))))))))) | .inr ⟨l22,i23,l24,i25,l26,l27⟩,h=>um (λst' hl80=>tS h (fg (Le.trans hl80 Iq))))))))))))) (λ⟨i1,l2,i3,l4,i5,l6,l7⟩ y h=>Af q [2] Iv (tS h (ee (Lm (H6 EC (Le.refl _ _)))))) (O3 (λst' hk=>tS h (gK hk))))
def mj:=(λ(v_:Ay)=>((Xd v_):AV))
def xJ(x1:mR):List OJ:=(Z3 x1.2.1.Params x1.2.1.Ret x1.2.1.Blocks x1.2.2.1 x1.2.2.2.1 x1.2.2.2.2 x1.2.2.2.2.length)
def xK(x2:mR):List OJ:=(Z3 x2.2.1.Params x2.2.1.Ret x2.2.1.Blocks x2.2.2.1 x2.2.2.2.1 x2.2.2.2.2 x2.2.2.2.2.length)
def xL(x3:mR):List OJ:=(Z3 x3.2.1.Params x3.2.1.Ret x3.2.1.Blocks x3.2.2.1 x3.2.2.2.1 x3.2.2.2.2 x3.2.2.2.2.length)
def Jw(a3:TFunc)(a5:Int)(a7:Ar)(aA:List Be):Option uN:=
 ((Kg a3 a5 a7 aA).bind λx1=>(bif (x1.1 !=0) then(some (x1.1,x1.2.1,x1.2.2.1,x1.2.2.2.1,x1.2.2.2.2,([]:List O9))) else((I5 x1.2.1 x1.2.2.1 x1.2.2.2.1 x1.2.2.2.2).bind λx2=>(bif (x2.1 !=0) then(some (x2.1,x2.2.1,x2.2.2.1,x2.2.2.2.1,x2.2.2.2.2,([]:List O9))) else((Jv x2.2.1 x2.2.2.1 x2.2.2.2.1 x2.2.2.2.2).bind λx3=>(bif (x3.1 !=0) then(some (x3.1,x3.2.1,x3.2.2.1,x3.2.2.2.1,x3.2.2.2.2,([]:List O9))) else((Ia x3.2.1 x3.2.2.1 x3.2.2.2.1 x3.2.2.2.2).bind λx4=>(bif (x4.1 !=0) then(some (x4.1,x4.2.1,x4.2.2.1,x4.2.2.2.1,x4.2.2.2.2.1,x4.2.2.2.2.2)) else((Kh x4.2.1 x4.2.2.1 x4.2.2.2.1 x4.2.2.2.2.2 x4.2.2.2.2.1).bind λx5=>(bif (x5.1 !=0) then(some (x5.1,x5.2.1,x5.2.2.1,x5.2.2.2.1,x5.2.2.2.2,x4.2.2.2.2.2)) else(some ((0:Int),x5.2.1,x5.2.2.1,x5.2.2.2.1,x5.2.2.2.2,x4.2.2.2.2.2))))))))))))
theorem X1(h:Jw v0 v1 v2 v12=some v27):sP 60 OR (Z3 v0.Params v0.Ret v0.Blocks v1 v2 v12 v12.length) (Z5 v27.1) [(Z1 v27.2.1.Params v27.2.1.Ret v27.2.1.Blocks v27.2.2.1 v27.2.2.2.1 9200005 v27.2.2.2.2.1),(Ll 37006 211 v27.2.2.2.2.1.length),(9200005,.obj (.map false .i64 (Bu (λ(v_:Ay)=>((Xd v_):AV)) v27.2.2.2.2.2)))]:=
 sG Tryz.func60 λΓ q=>tW q [0] Iy [3] SX (Af q KU Iy (gU 5 (Af q KR Iy (oi true (tU q TR Iy (c1 (show(A1 (0:Int) 5) from(by decide))) (tB h λx1 y1 h=>tT q TS Iy [(Z99 x1.1 (xJ x1))] (c1 (Zl y1)) (Af q TD Iy (gC h (λh=>Af q [2] Iy (Qc (⟨[(2,(Z5 x1.1))],(xJ x1),[]⟩:St) (tS h (gK (e:=.ret) (H6 qw (Le.trans (Xs (r:=30000) (j:=5) (nm:=9300005) .i64 rfl rfl (nl rfl) rfl) (Bi (st':=⟨[(2,(Z5 x1.1))],[(Z1 x1.2.1.Params x1.2.1.Ret x1.2.1.Blocks x1.2.2.1 x1.2.2.2.1 9300005 x1.2.2.2.2),(Ll 37006 211 x1.2.2.2.2.length),(9300005,.obj (.map false .i64 (Bu mj ([]:List O9))))],[]⟩) [2] iF q))))))) λh=>tW q KU Iy KR Iy (oi true (tU q TR Iy (c1 (show(A1 (1:Int) 5) from(by decide))) (tB h λx2 y2 h=>tT q TS Iy [(Z99 x2.1 (xK x2))] (c1 (Wk y2)) (Af q TD Iy (gC h (λh=>Af q [2] Iy (Qc (⟨[(2,(Z5 x2.1))],(xK x2),[]⟩:St) (tS h (gK (e:=.ret) (H6 qw (Le.trans (Xs (r:=30000) (j:=5) (nm:=9300005) .i64 rfl rfl (nl rfl) rfl) (Bi (st':=⟨[(2,(Z5 x2.1))],[(Z1 x2.2.1.Params x2.2.1.Ret x2.2.1.Blocks x2.2.2.1 x2.2.2.2.1 9300005 x2.2.2.2.2),(Ll 37006 211 x2.2.2.2.2.length),(9300005,.obj (.map false .i64 (Bu mj ([]:List O9))))],[]⟩) [2] iF q))))))) λh=>tW q KU Iy KR Iy (oi true (tU q TR Iy (c1 (show(A1 (2:Int) 5) from(by decide))) (tB h λx3 y3 h=>tT q TS Iy [(Z99 x3.1 (xL x3))] (c1 (X0 y3)) (Af q TD Iy (gC h (λh=>Af q [2] Iy (Qc (⟨[(2,(Z5 x3.1))],(xL x3),[]⟩:St) (tS h (gK (e:=.ret) (H6 qw (Le.trans (Xs (r:=30000) (j:=5) (nm:=9300005) .i64 rfl rfl (nl rfl) rfl) (Bi (st':=⟨[(2,(Z5 x3.1))],[(Z1 x3.2.1.Params x3.2.1.Ret x3.2.1.Blocks x3.2.2.1 x3.2.2.2.1 9300005 x3.2.2.2.2),(Ll 37006 211 x3.2.2.2.2.length),(9300005,.obj (.map false .i64 (Bu mj ([]:List O9))))],[]⟩) [2] iF q))))))) λh=>tW q KU Iy KR Iy (oi true (tU q TR Iy (c1 (show(A1 (3:Int) 5) from(by decide))) (tB h λx4 y4 h=>tT q TS Zc [⟨Zb,[(9200005,13000005)],(Z5 x4.1),[(Z1 x4.2.1.Params x4.2.1.Ret x4.2.1.Blocks x4.2.2.1 x4.2.2.2.1 9200005 x4.2.2.2.2.1),(Ll 37006 211 x4.2.2.2.2.1.length),(9200005,.obj (.map false .i64 (Bu mj x4.2.2.2.2.2)))],[],[]⟩] (c1 (Vs y4)) (Af q TD Zc (gC h (λh=>Af q [2] Zc (tS h (Cc qv))) λh=>tW q KU Zc KR Zc (oi true (tU q TR Zc (c1 (show(A1 (4:Int) 5) from(by decide))) (tB h λx5 y5 h=>tT q TS Zc [⟨[(30000,30000),(37006,37006),(13000005,9100005)],[],(Z5 x5.1),[(Z1 x5.2.1.Params x5.2.1.Ret x5.2.1.Blocks x5.2.2.1 x5.2.2.2.1 9100005 x5.2.2.2.2),(Ll 37006 211 x5.2.2.2.2.length),(9100005,.obj (.map false .i64 (Bu mj x4.2.2.2.2.2)))],[],[]⟩] (c1 (Zm y5)) (Af q TD Zc (gC h (λh=>Af q [2] Zc (tS h (Cc qv))) λh=>tW q KU Zc KR Zc (oi false (Af q [2] Zc (tS h (Cc qv))))))))))))))))))))))))))))))))
set_option maxRecDepth 100000
set_option maxHeartbeats 2000000
def xN(a0:TFunc)(aU:Int):AV:=(.agg [(Z6 a0.Params),(Z5 a0.Ret),(UF a0.Blocks),(Z5 aU),fG,.nilm,(AV.list 5 Ol default ([]:List Be) .exact)])
def xM(a0:TFunc)(aU:Int):=(⟨[eZ],[(5,.row 102 [(Z6 a0.Params),(Z5 a0.Ret),(UF a0.Blocks),(Z5 aU),fG,.nilm,(AV.list 5 Ol default ([]:List Be) .exact)])],[]⟩:St)
def u5(a0:TFunc)(aU:Int):=(⟨[eZ],[(5,.row 102 [(Z6 a0.Params),(Z5 a0.Ret),(UF a0.Blocks),(Z5 aU),fG,.nilm,(AV.list 5 Ol default ([]:List Be) (.own 50506))]),(50506,.tok 5 211 (([]:List Be).length))],[]⟩:St)
def R3(a0:TFunc)(aU:Int):Option Int:=
 (bif (bif (decide (aU<0)) then true else(decide ((2:Int)<aU))) then(some (1:Int)) else((Jw a0 aU ([]:Ar) ([]:List Be)).bind λx1=>(some x1.1)))
theorem QT(h:R3 v0 v1=some v11):sP 22 [(W9 v0),(Z5 v1)] [] (.int .i64 v11) []:=
 sG Tryz.func22 λΓ q=>Af q Ee [2] (tU q TT [2] (c2 (gI ((decide (v1<0))==false)) (Ng (decide (v1<0)))) (gC h (λh=>Af q [4] [] (tS h (Cc []))) λh=>gR q [5] [5] [(14,(xN v0 v1))] [] (c1 (show(AVle (.agg [(Z6 v0.Params),(Z5 v0.Ret),(UF v0.Blocks),(Z5 v1),Z0,.nilm,Z0]) (xN v0 v1)) from(AVle.agg (.cons (AVle.refl _) (.cons (AVle.refl _) (.cons (AVle.refl _) (.cons (AVle.refl _) (.cons El (.cons (AVle.refl _) (.cons El .nil)))))))))) (Qc (xM v0 v1) (gLe (show Le Γ _ (u5 v0 v1) from Le.trans (Bi (st':=(xM v0 v1)) [5] [5] q) (Le.trans (AZ (r:=5) (j:=6) (nm:=50506) (sz':=5) (λi=>Ol (([]:List Be).getD i default)) 211 rfl rfl (nl rfl) rfl (.inl ⟨rfl,rfl⟩) (λh_=>absurd h_ (by decide))) (Bi (st':=(u5 v0 v1)) [5] [5,50506] q))) (gLe (show Le Γ _ (⟨[eZ],[(5,.row 102 [(Z6 v0.Params),(Z5 v0.Ret),(UF v0.Blocks),(Z5 v1),(AV.list 1 Ap 0 ([]:Ar) .none),.nilm,(AV.list 5 Ol default ([]:List Be) (.own 50506))]),(50506,.tok 5 211 (([]:List Be).length))],[]⟩:St) from Le.trans (Bi (st':=(u5 v0 v1)) [5] [5,50506] q) (I8 (.cons (AVle.refl _) .nil) (.row (.cons (AVle.refl _) (.cons (AVle.refl _) (.cons (AVle.refl _) (.cons (AVle.refl _) (.cons AVle.untag (.cons (AVle.refl _) (.cons (AVle.refl _) .nil))))))) (.same .nil)))) (tB h λx1 y1 h=>tT q [4] [] [⟨[(5,30000),(50506,37006)],[(9200005,10000505)],(Z5 x1.1),[(Z1 x1.2.1.Params x1.2.1.Ret x1.2.1.Blocks x1.2.2.1 x1.2.2.2.1 9200005 x1.2.2.2.2.1),(Ll 37006 211 x1.2.2.2.2.1.length),(9200005,.obj (.map false .i64 (Bu (λ(v_:Ay)=>((Xd v_):AV)) x1.2.2.2.2.2)))],[],[]⟩] (c1 (X1 y1)) (tS h (Cc []))))))))
def Uy(aX:Int):Option Bool:=
 (Option.bind (α:=Bool) (bif (aX==4) then(some (aX==4)) else(bif (aX==16) then(some (aX==16)) else(bif (aX==17) then(some (aX==17)) else(bif (aX==18) then(some (aX==18)) else(bif (aX==19) then(some (aX==19)) else(some (aX==20))))))) (λx2=>(bif x2 then(some false) else((O4 aX).bind λx4=>(some x4)))))
theorem ax(h:Uy v1=some v3):sP 92 [(Z5 v1)] [] (.bool v3) []:=
 sG Tryz.func92 λΓ q=>tW q [0] [] Rj [] (tB h λx2 y2 h=>gJ y2 (λb1=>aG Γ .normal (⟨[(0,(Z5 v1)),(4,(.bool b1))],[],[]⟩:St)) (λy h=>Af q S9 [] (gC h (λh=>tS h (gK (Bd (Bi [0,4] [] q)))) λh=>Af q S9 [] (gC h (λh=>tS h (gK (Bd (Bi [0,4] [] q)))) λh=>Af q S9 [] (gC h (λh=>tS h (gK (Bd (Bi [0,4] [] q)))) λh=>Af q S9 [] (gC h (λh=>tS h (gK (Bd (Bi [0,4] [] q)))) λh=>Af q S9 [] (gC h (λh=>tS h (gK (Bd (Bi [0,4] [] q)))) λh=>Af q [0,4] [] (tS h (gK (Bd Iq))))))))) (gA (gC h (λh=>Af q [2] [] (tS h (Cc []))) λh=>tB h λx4 y4 h=>tT q [2] [] [(Z2 x4)] (c1 (BJ y4)) (tS h (Cc [])))))
def Pf(aC:Int):Option Bool:=
 (some (aC !=aC))
theorem Wl(h:Pf v1=some v3):sP 275 [(Z5 v1)] [] (.bool v3) []:=
 sG Tryz.func275 λΓ q=>tW q [0] [] [2] [] (tS h (Cc []))
def Tu(aC:Int)(aZ:Int):Option Bool:=
 ((Pf aC).bind λx1=>((bif (x1==true) then Pf aZ else some false).bind λx2=>(some (bif (bif x1 then(!x2) else false) then true else(decide (aC<aZ))))))
theorem NC(h:Tu v1 v11=some v3):sP 234 [(Z5 v1),(Z5 v11)] [] (.bool v3) []:=
 sG Tryz.func234 λΓ q=>Af q Gn [] (tB h λx1 y1 h=>tB h λx2 y2 h=>tT q [4] [] [(Z2 x1),(Z2 x2)] (d5_ (Wl y1) (gI (x1==true)) (λ(hg:(x1==true)=true)=>(Wl (Bq hg y2))) (gI (x1==true)) (Nh x1) (M4 ((bif x1 then(!x2) else false)==false) (c1 (Ng (bif x1 then(!x2) else false))))) (tS h (Cc [])))
def Mf(aC:Int):Option Bool:=
 (some (aC !=aC))
theorem S3(h:Mf v1=some v3):sP 235 [(Z5 v1)] [] (.bool v3) []:=
 sG Tryz.func235 λΓ q=>tW q [0] [] [2] [] (tS h (Cc []))
def B4(aC:Ar)(aW:Int):Gq->Option uM:=
 λ((i1,i2):Gq)=>(bif (decide (i1<i2)) then(A0 (A1 (w64 (Wv .u64 (Iu (w64 (i1+i2))) (1:Int))) aC.length) ((Tu (aC.getD (w64 (Wv .u64 (Iu (w64 (i1+i2))) (1:Int))).toNat (0:Int)) aW).bind λx5=>(bif x5 then(some (.next ((w64 ((w64 (Wv .u64 (Iu (w64 (i1+i2))) (1:Int)))+1)),i2))) else(some (.next (i1,(w64 (Wv .u64 (Iu (w64 (i1+i2))) (1:Int))))))))) else(some (.done i1)))
def ml(x6:Int)(aC:Ar):=((decide (x6<(aC.length:Int)))==true)
def UK(x6:Int)(aC:Ar)(aW:Int):=((ml x6 aC)&&(((aC.getD x6.toNat 0)==aW)==false))
def Fe(aC:Ar)(aW:Int):Option (Int×Bool):=
 ((Ac (B4 aC aW) ((0:Int),(aC.length:Int))).bind (λx6=>(A0 (((decide (x6<(aC.length:Int)))==true)=true->(A1 x6 aC.length)) (A0 ((((decide (x6<(aC.length:Int)))==true)&&(((aC.getD x6.toNat 0)==aW)==false))=true->(A1 x6 aC.length)) ((bif (((decide (x6<(aC.length:Int)))==true)&&(((aC.getD x6.toNat 0)==aW)==false)) then Mf (aC.getD x6.toNat 0) else some false).bind λx10=>((bif ((((decide (x6<(aC.length:Int)))==true)&&(((aC.getD x6.toNat 0)==aW)==false))&&(x10==true)) then Mf aW else some false).bind λx11=>(some (x6,(bif (decide (x6<(aC.length:Int))) then(bif ((aC.getD x6.toNat 0)==aW) then true else(bif x10 then x11 else false)) else false)))))))))
variable{v32:(Int×Bool)}
theorem Ru(h:Fe v2 v1=some v32):sP 192 [(Z6 v2),(Z5 v1)] [] (.tuple [(Z5 v32.1),(.bool v32.2)]) []:=
 sG Tryz.func192 λΓ q=>tW q Gn [] [0,1,6] [] (Af q TC [] (tL q h TC [] (λu (i1,i2)=>(Cl u [(7,(Z5 i1)),(8,(Z5 i2))] [])) (λu i3=>aG Γ (.exit 0) (Ni TN [] u [(7,(Z5 i3))] [])) (λ⟨i1,i2⟩ y h=>Af q [0,1,6,7,8,15] [] (gC h (λh=>tU q [0,1,6,7,8,9] [] (c1 (show(0<=(1:Int)) from(by decide))) (tC h λc4_ h=>tB h λx5 y5 h=>tT q [0,1,6,7,8,9,27] [] [(Z2 x5)] (c2 c4_ (NC y5)) (gC h (λh=>Af q TC [] (tN h)) λh=>Af q TC [] (tN h)))) λh=>tS h (gO (Bd (Bi TN [] q))))) λx6 h=>gA (tC h λc8_ h=>tC h λc9_ h=>tB h λx10 y10 h=>tB h λx11 y11 h=>tT q [4,5] [] [(Z2 x10),(Z2 x11)] (M4 (ml x6 v2) (ci c8_ (ZR (ml x6 v2) (M4 (UK x6 v2 v1) (ci c9_ (M4 (UK x6 v2 v1) (c9 (λ(hg:(UK x6 v2 v1)=true)=>(S3 (Bq hg y10))) (gI (UK x6 v2 v1)) (gI ((UK x6 v2 v1)&&(x10==true))) (λ(hg:((UK x6 v2 v1)&&(x10==true))=true)=>(S3 (Bq hg y11))) (gI (UK x6 v2 v1)) (show((UK x6 v2 v1)=true->(x10=true->((UK x6 v2 v1)&&(x10==true))=true)) from(λhg=>(aT hg))) (gI (ml x6 v2)) (show((ml x6 v2)=true->(((v2.getD x6.toNat 0)==v1)=false->(UK x6 v2 v1)=true)) from(λhg=>(aF hg))) (Nh (decide (x6<(v2.length:Int))))))))))) (tS h (Cc [])))))
set_option maxRecDepth 100000
set_option maxHeartbeats 2000000
def Ga(aI:Ar)(aL:Ar):Int->Option (LR Int (Unit ⊕ Bool)):=
 λ(i1:Int)=>(bif (decide (i1<(aI.length:Int))) then(A0 (A1 i1 aI.length) (A0 (A1 i1 aL.length) (bif ((aI.getD i1.toNat 0)!=(aL.getD i1.toNat 0)) then(some (.done (.inr false))) else(some (.next (w64 (i1+1))))))) else(some (.done (.inl ()))))
def AD(Γ:H5)(aI:Ar)(aL:Ar)(r:Bool):Exit->St->Prop:=fK Tryz.prog Γ Tryz.f13.results.toList [] (.bool r) []
def Dp(aI:Ar)(aL:Ar):Option Bool:=
 (bif ((aI.length:Int)!=(aL.length:Int)) then(some false) else((Ac (Ga aI aL) (0:Int)).bind (λx4=>(match x4 with|(.inl _)=>(some true)|(.inr r6)=>(some r6)))))
theorem J2(h:Dp v2 v17=some v3):sP 13 [(Z6 v2),(Z6 v17)] [] (.bool v3) []:=
 sG Tryz.func13 λΓ q=>tW q Gn [] Yo [] (gC h (λh=>Af q [4] [] (tS h (Cc []))) λh=>Af q Nd [] (tL q h Nd [] (λu i1=>(Cl u [(5,(Z5 i1))] [])) (λu x_=>match x_ with|(.inl _)=>aG Γ (.exit 0) (⟨[],[],[]⟩:St)|(.inr r_)=>aR (AD Γ v2 v17 r_)) (λi1 y h=>Af q [0,1,5,14] [] (gC h (λh=>tC h λc2_ h=>tC h λc3_ h=>tU q [0,1,5,25] [] (c2 c2_ c3_) (gC h (λh=>Af q [4] [] (tS h (gO (Lm (H6 [] (Le.refl _ _)))))) λh=>Af q Nd [] (tN h))) λh=>tS h (gO (Bd (Bi [] [] q))))) λx4 h=>(match x4,h with | .inl _,h=>gA (Af q [4] [] (tS h (Cc []))) | .inr r6,h=>O3 (λst' hk=>tS h (gK hk)))))
def Cz(a0:TFunc)(i2:Int):Gq->Option uM:=
 λ((i5,i6):Gq)=>(A0 (A1 i2 a0.Blocks.length) (bif (bif (decide (i6<(((a0.Blocks.getD i2.toNat default).Phis).length:Int))) then(decide (i5<=20000)) else false) then(A0 (A1 i2 a0.Blocks.length) (A0 (A1 i6 ((a0.Blocks.getD i2.toNat default).Phis).length) (A0 (A1 i2 a0.Blocks.length) (A0 (A1 i6 ((a0.Blocks.getD i2.toNat default).Phis).length) (some (.next ((w64 ((w64 ((w64 (i5+1))+(((((a0.Blocks.getD i2.toNat default).Phis).getD i6.toNat default).From).length:Int)))+(((((a0.Blocks.getD i2.toNat default).Phis).getD i6.toNat default).Args).length:Int))),(w64 (i6+1))))))))) else(some (.done i5))))
def C0(a0:TFunc)(i2:Int):Gq->Option uM:=
 λ((i15,i16):Gq)=>(A0 (A1 i2 a0.Blocks.length) (bif (bif (decide (i16<(((a0.Blocks.getD i2.toNat default).Ops).length:Int))) then(decide (i15<=20000)) else false) then(A0 (A1 i2 a0.Blocks.length) (A0 (A1 i16 ((a0.Blocks.getD i2.toNat default).Ops).length) (some (.next ((w64 ((w64 (i15+1))+(((((a0.Blocks.getD i2.toNat default).Ops).getD i16.toNat default).Args).length:Int))),(w64 (i16+1))))))) else(some (.done i15))))
def C1(a0:TFunc):Gq->Option uM:=
 λ((i1,i2):Gq)=>(bif (bif (decide (i2<(a0.Blocks.length:Int))) then(decide (i1<=20000)) else false) then(A0 (A1 i2 a0.Blocks.length) ((Ac (Cz a0 i2) ((w64 ((w64 (i1+1))+(((a0.Blocks.getD i2.toNat default).End.To).length:Int))),(0:Int))).bind (λx13=>((Ac (C0 a0 i2) (x13,(0:Int))).bind (λx21=>(some (.next (x21,(w64 (i2+1)))))))))) else(some (.done i1)))
def C6(a0:TFunc):Option Bool:=
 ((Ac (C1 a0) ((a0.Params.length:Int),(0:Int))).bind (λx23=>(some (decide (x23<=20000)))))
theorem X7(h:C6 v0=some v3):sP 40 [(W9 v0)] [] (.bool v3) []:=
 sG Tryz.func40 λΓ q=>tW q [1] [1] L7 [1] (Af q J8 [1] (tL q h J8 [1] (λu (i1,i2)=>(Cl u [(3,(Z5 i1)),(4,(Z5 i2))] [])) (λu i3=>aG Γ (.exit 0) (⟨[(3,(Z5 i3))],[],[]⟩:St)) (λ⟨i1,i2⟩ y h=>tU q [1,3,4,18] [1] (c2 (gI ((decide (i2<(v0.Blocks.length:Int)))==true)) (Nh (decide (i2<(v0.Blocks.length:Int))))) (gC h (λh=>tV q J8 [1] h λh=>Af q L6 [1] (tL q h L6 [1] (λu (i5,i6)=>(Cl u [(3,(Z5 i5)),(5,(Z5 i6))] [])) (λu i7=>aG Γ (.exit 2) (Ni J8 [1] u [(3,(Z5 i7))] [])) (λ⟨i5,i6⟩ y h=>tC h λc8_ h=>tU q [1,3,4,5,44] [1] (c3 c8_ (gI ((decide (i6<(((v0.Blocks.getD i2.toNat default).Phis).length:Int)))==true)) (Nh (decide (i6<(((v0.Blocks.getD i2.toNat default).Phis).length:Int))))) (gC h (λh=>tC h λc9_ h=>tC h λc10_ h=>tC h λc11_ h=>tC h λc12_ h=>tU q L6 [1] (c4 c9_ c10_ c11_ c12_) (Af q L6 [1] (tN h))) λh=>tS h (gO (Bd (Bi J8 [1] q))))) λx13 h=>gA (Af q bf [1] (tL q h bf [1] (λu (i15,i16)=>(Cl u [(3,(Z5 i15)),(6,(Z5 i16))] [])) (λu i17=>aG Γ (.exit 4) (Ni J8 [1] u [(3,(Z5 i17))] [])) (λ⟨i15,i16⟩ y h=>tC h λc18_ h=>tU q [1,3,4,6,85] [1] (c3 c18_ (gI ((decide (i16<(((v0.Blocks.getD i2.toNat default).Ops).length:Int)))==true)) (Nh (decide (i16<(((v0.Blocks.getD i2.toNat default).Ops).length:Int))))) (gC h (λh=>tC h λc19_ h=>tC h λc20_ h=>tU q bf [1] (c2 c19_ c20_) (Af q bf [1] (tN h))) λh=>tS h (gO (Bd (Bi J8 [1] q))))) λx21 h=>gA (Af q J8 [1] (tN h)))))) λh=>tS h (gO (Bd (Bi [3] [] q))))) λx23 h=>gA (Af q [2] [] (tS h (Cc [])))))
def Ce(a0:TFunc):Gq->Option uM:=
 λ((i1,i2):Gq)=>(bif (decide (i2<(a0.Blocks.length:Int))) then(A0 (A1 i2 a0.Blocks.length) (A0 (A1 i2 a0.Blocks.length) (some (.next ((w64 ((w64 ((w64 (i1+1))+(((a0.Blocks.getD i2.toNat default).Ops).length:Int)))+(((a0.Blocks.getD i2.toNat default).Phis).length:Int))),(w64 (i2+1))))))) else(some (.done i1)))
def rN(a0:TFunc)(x6:Int):=(bif (decide ((a0.Blocks.length:Int)<=16)) then(decide (x6<=100)) else false)
def u7(a0:TFunc)(x6:Int):=(bif (rN a0 x6) then true else(decide ((64:Int)<(a0.Blocks.length:Int))))
def D8(a0:TFunc):Option Bool:=
 ((Ac (Ce a0) ((0:Int),(0:Int))).bind (λx6=>((C6 a0).bind λx8=>(some (bif x8 then(bif (bif (bif (decide ((a0.Blocks.length:Int)<=16)) then(decide (x6<=100)) else false) then true else(decide ((64:Int)<(a0.Blocks.length:Int)))) then true else(decide ((512:Int)<x6))) else false)))))
theorem Ya(h:D8 v0=some v3):sP 11 [(W9 v0)] [] (.bool v3) []:=
 sG Tryz.func11 λΓ q=>tW q [1] [1] L7 [1] (Af q J8 [1] (tL q h J8 [1] (λu (i1,i2)=>(Cl u [(3,(Z5 i1)),(4,(Z5 i2))] [])) (λu i3=>aG Γ (.exit 0) (Ni L7 [1] u [(3,(Z5 i3))] [])) (λ⟨i1,i2⟩ y h=>Af q [1,3,4,9] [1] (gC h (λh=>tC h λc4_ h=>tC h λc5_ h=>tU q J8 [1] (c2 c4_ c5_) (Af q J8 [1] (tN h))) λh=>tS h (gO (Bd (Bi L7 [1] q))))) λx6 h=>gA (tB h λx8 y8 h=>tT q [2] [] [(Z2 x8)] (ci (X7 y8) (ZR (x8==true) (d4_ (gI ((x8==true)&&((decide ((v0.Blocks.length:Int)<=16))==true))) (gI (x8==true)) (show((x8==true)=true->((decide ((v0.Blocks.length:Int)<=16))=true->((x8==true)&&((decide ((v0.Blocks.length:Int)<=16))==true))=true)) from(λhg=>(aT hg))) (gI (x8==true)) (Vm ((x8==true)&&((rN v0 x6)==false)) (c7 (gI (x8==true)) (show((x8==true)=true->((rN v0 x6)=false->((x8==true)&&((rN v0 x6)==false))=true)) from(λhg=>(aF hg))) (gI (x8==true)) (gI ((x8==true)&&((u7 v0 x6)==false))) (gI (x8==true)) (show((x8==true)=true->((u7 v0 x6)=false->((x8==true)&&((u7 v0 x6)==false))=true)) from(λhg=>(aF hg))) (Nh x8)))))) (tS h (Cc [])))))
def Bn(aS:Int):Option Bool:=
 (some (bif (decide ((0:Int)<=aS)) then(decide (aS<=2147483647)) else false))
theorem Cf(h:Bn v1=some v3):sP 95 [(Z5 v1)] [] (.bool v3) []:=
 sG Tryz.func95 λΓ q=>Af q [0] [] (tU q [2] [] (c2 (gI ((decide ((0:Int)<=v1))==true)) (Nh (decide ((0:Int)<=v1)))) (tS h (Cc [])))
def Gc(aQ:Ar):Int->Option (LR Int (Unit ⊕ Bool)):=
 λ(i1:Int)=>(bif (decide (i1<(aQ.length:Int))) then(A0 (A1 i1 aQ.length) ((Bn (aQ.getD i1.toNat 0)).bind λx3=>(bif (!x3) then(some (.done (.inr false))) else(some (.next (w64 (i1+1))))))) else(some (.done (.inl ()))))
def AF(Γ:H5)(aQ:Ar)(r:Bool):Exit->St->Prop:=fK Tryz.prog Γ Tryz.f94.results.toList [] (.bool r) []
def Dq(aQ:Ar):Option Bool:=
 ((Ac (Gc aQ) (0:Int)).bind (λx4=>(match x4 with|(.inl _)=>(some (decide ((aQ.length:Int)<=64)))|(.inr r6)=>(some r6))))
theorem Ho(h:Dq v2=some v3):sP 94 [(Z6 v2)] [] (.bool v3) []:=
 sG Tryz.func94 λΓ q=>tW q [0] [] Rj [] (tL q h Rj [] (λu i1=>(Cl u [(3,(Z5 i1))] [])) (λu x_=>match x_ with|(.inl _)=>aG Γ (.exit 0) (Ni [0] [] u [] [])|(.inr r_)=>aR (AF Γ v2 r_)) (λi1 y h=>Af q [0,3,7] [] (gC h (λh=>tC h λc2_ h=>tB h λx3 y3 h=>tT q [0,3,15] [] [(Z2 x3)] (c2 c2_ (Cf y3)) (gC h (λh=>Af q [2] [] (tS h (gO (Lm (H6 [] (Le.refl _ _)))))) λh=>Af q Rj [] (tN h))) λh=>tS h (gO (Bd (Bi [0] [] q))))) λx4 h=>(match x4,h with | .inl _,h=>gA (Af q [2] [] (tS h (Cc []))) | .inr r6,h=>O3 (λst' hk=>tS h (gK hk))))
def Ih(a0:TFunc):Gq->Option uM:=
 λ((i1,i2):Gq)=>(bif (decide (i2<(a0.Blocks.length:Int))) then(A0 (A1 i2 a0.Blocks.length) (A0 (A1 i2 a0.Blocks.length) (some (.next ((w64 ((w64 ((w64 (i1+(((a0.Blocks.getD i2.toNat default).Phis).length:Int)))+(((a0.Blocks.getD i2.toNat default).Ops).length:Int)))+1)),(w64 (i2+1))))))) else(some (.done i1)))
def Ko(a0:TFunc):Option Int:=
 ((Ac (Ih a0) ((0:Int),(0:Int))).bind (λx6=>(some x6)))
theorem Zr(h:Ko v0=some v1):sP 23 [(W9 v0)] [] (.int .i64 v1) []:=
 sG Tryz.func23 λΓ q=>tW q [1] [1] L7 [1] (Af q J8 [1] (tL q h J8 [1] (λu (i1,i2)=>(Cl u [(3,(Z5 i1)),(4,(Z5 i2))] [])) (λu i3=>aG Γ (.exit 0) (⟨[(3,(Z5 i3))],[],[]⟩:St)) (λ⟨i1,i2⟩ y h=>Af q [1,3,4,9] [1] (gC h (λh=>tC h λc4_ h=>tC h λc5_ h=>tU q J8 [1] (c2 c4_ c5_) (Af q J8 [1] (tN h))) λh=>tS h (gO (Bd (Bi [3] [] q))))) λx6 h=>gA (Af q [2] [] (tS h (Cc [])))))
end
end Go.Proofs.YtfhggcbcamamdaaGreat
