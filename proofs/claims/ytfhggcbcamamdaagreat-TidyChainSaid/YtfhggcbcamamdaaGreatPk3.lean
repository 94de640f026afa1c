/-
  The machine, the program's functions and the laws' arithmetic: part 3 of 5.
-/
import Derived.Test.YtfhggcbcamamdaaGreatPk2
import Derived.BigCall
import Derived.Lib.RowBridge
import Derived.Shelf.Slices.Clone
import Derived.Shelf.Slices.CompactI
import Derived.Shelf.Slices.In.SortNone
import Derived.Shelf.Sort.Plain
import Derived.Shelf.Spec.SlicesGrow
import Derived.Shelf.Spec.SlicesInsertGrow
import Derived.Sort.OwnSortedInts
import Derived.Test.YtfhggcbcamamdaaGreatProg
set_option linter.unusedSectionVars false
set_option linter.unusedVariables false
set_option linter.unusedSimpArgs false
namespace Go.Proofs.YtfhggcbcamamdaaGreat
noncomputable section
open Go Go.RowKit
inductive kG where
 | nx (y:Code)
 | bl (id:Nat)
 | ag (c:Code) (n:Nat)
inductive M0 where
 | run (c:Code) (fs:List kG)
 | out (e:Exit) (fs:List kG)
def kD(P:Program)(Γ:G2)(K:Exit->St->Prop):List kG->Exit->St->Prop
 | []=>K
 | .nx y::fs=>nG P Γ y (kD P Γ K fs)
 | .bl id::fs=>AP id (kD P Γ K fs)
 | .ag c n::fs=>λe st=>(e = .normal/\EZ P Γ c (kD P Γ K fs) n st)\/(e≠.normal/\kD P Γ K fs e st)
def GG(P:Program)(Γ:G2)(K:Exit->St->Prop):M0->St->Prop
 | .run c fs,st=>T0 P Γ c (kD P Γ K fs) st
 | .out e fs,st=>kD P Γ K fs e st
def Un:Code->Nat->Nat
 | .exit i,k=>bif Nat.beq i k then 1 else 0
 | .seq a b,k=>Nat.min 2 (Un a k+Un b k)
 | .cond _ a b,k=>Nat.min 2 (Un a k+Un b k)
 | .loop c,k=>Nat.min 1 (Un c k)
 | .scope c,k=>Nat.min 1 (Un c k)
 | .block _ c,k=>Un c k
 | _,_=>0
def Pg:Code->Nat
 | .region _ _ _=>1
 | .skip=>1
 | .label _=>1
 | .seq a b=>bif Nat.beq (Pg a) 0 then 0 else Pg b
 | .cond _ a b=>Nat.min 2 (Pg a+Pg b)
 | .block i c=>Nat.min 2 (Pg c+Un c i)
 | .scope c=>Nat.min 2 (Pg c)
 | _=>0
def iC(a:Code):Bool:=match a with | .region _ _ _=>false|a=>Nat.ble 2 (Pg a)
def HR:Nat->Code ⊕ Exit->List kG->M0
 | 0,.inl c,fs=>.run c fs
 | 0,.inr e,fs=>.out e fs
 | n+1,.inl c,fs=>
  match c with
  | .skip=>HR n (.inr .normal) fs
  | .label _=>HR n (.inr .normal) fs
  | .seq a b=>bif iC a then .run (.seq a b) fs else HR n (.inl a) (.nx b::fs)
  | .block id a=>HR n (.inl a) (.bl id::fs)
  | .exit id=>HR n (.inr (.exit id)) fs
  | .goto l=>HR n (.inr (.goto l)) fs
  | .ret=>HR n (.inr .ret) fs
  | c=>.run c fs
 | n+1,.inr e,fs=>
  match fs with
  | []=>.out e []
  | .nx y::fs=>(match e with | .normal=>HR n (.inl y) fs|e=>HR n (.inr e) fs)
  | .bl id::fs=>(match e with | .exit i=>bif Nat.beq i id then HR n (.inr .normal) fs else HR n (.inr (.exit i)) fs|e=>HR n (.inr e) fs)
  | .ag c m::fs=>(match e with | .normal=>(match m with|0=>.out .normal (.ag c 0::fs)|m+1=>HR n (.inl c) (.ag c m::fs))|e=>HR n (.inr e) fs)
section
variable {P:Program} {Γ:G2} {K:Exit->St->Prop}
theorem Bs:∀(n:Nat) (x:Code ⊕ Exit) (fs:List kG) (st:St),GG P Γ K (HR n x fs) st->(match x with | .inl c=>T0 P Γ c (kD P Γ K fs) st | .inr e=>kD P Γ K fs e st)
 | 0,.inl c,fs,st,h=>h
 | 0,.inr e,fs,st,h=>h
 | n+1,.inl c,fs,st,h=>by
  cases c with
  | skip=>exact fl (Bs n _ fs st h)
  | label l=>exact cq (Bs n _ fs st h)
  | seq a b=>
   cases hj:iC a with
   | true=>simp only[HR,hj]at h;exact h
   | false=>simp only[HR,hj]at h;exact ax (Bs n (.inl a) _ st h)
  | block id a=>exact cp (Bs n (.inl a) _ st h)
  | exit id=>exact fe (Bs n _ fs st h)
  | goto l=>exact ff (Bs n _ fs st h)
  | ret=>exact kn (Bs n (.inr .ret) fs st h)
  | _=>exact h
 | n+1,.inr e,[],st,h=>h
 | n+1,.inr e,.nx y::fs,st,h=>by
  cases e with
  | normal=>exact Bs n (.inl y) fs st h
  | exit i=>exact Bs n _ fs st h
  | goto l=>exact Bs n _ fs st h
  | ret=>exact Bs n (.inr .ret) fs st h
  | panic c=>exact Bs n _ fs st h
  | outgrown=>exact Bs n _ fs st h
 | n+1,.inr e,.bl id::fs,st,h=>by
  cases e with
  | normal=>exact Bs n _ fs st h
  | exit i=>
   cases hb:Nat.beq i id with
   | true=>
    obtain rfl:=Ce hb;simp only[HR,hb]at h;exact XE (Bs n _ fs st h)
   | false=>
    simp only[HR,hb]at h;exact XD hb (Bs n _ fs st h)
  | goto l=>exact Bs n _ fs st h
  | ret=>exact Bs n (.inr .ret) fs st h
  | panic c=>exact Bs n _ fs st h
  | outgrown=>exact Bs n _ fs st h
 | n+1,.inr e,.ag c m::fs,st,h=>by
  cases e with
  | normal=>
   cases m with
   | zero=>exact h
   | succ m=>exact .inl ⟨rfl,Bs n (.inl c) _ st h⟩
  | exit i=>exact .inr ⟨(by intro hh;cases hh),Bs n _ fs st h⟩
  | goto l=>exact .inr ⟨(by intro hh;cases hh),Bs n _ fs st h⟩
  | ret=>exact .inr ⟨(by intro hh;cases hh),Bs n (.inr .ret) fs st h⟩
  | panic ch=>exact .inr ⟨(by intro hh;cases hh),Bs n _ fs st h⟩
  | outgrown=>exact .inr ⟨(by intro hh;cases hh),Bs n _ fs st h⟩
theorem Ir{n:Nat}{c:Code}{fs:List kG}{st:St}(h:GG P Γ K (HR n (.inl c) fs) st):T0 P Γ c (kD P Γ K fs) st:=Bs n _ fs st h
theorem Zh{n:Nat}{e:Exit}{fs:List kG}{st:St}(h:GG P Γ K (HR n (.inr e) fs) st):kD P Γ K fs e st:=Bs n _ fs st h
def mz(c:Code)(fs:List kG):M0:=HR 400 (.inl c) fs
def sa(e:Exit)(fs:List kG):M0:=HR 400 (.inr e) fs
def li:M0->M0
 | .run _ fs=>sa .normal fs
 | x=>x
def lr:M0->Option (List Oper×Bool)
 | .run (.region _ ops draw) _=>some (ops.toList,draw)
 | _=>none
def kB(P:Program)(S:Yo)(n:Nat)(cs:List (Nat×AV))(live names:List Nat)(x:M0)(st:St)(rs:List R9):Option (St×List Prop×Bool):=
 match lr x with
 | some (ops,draw)=>FC P S n cs live names ops draw st rs
 | none=>none
def lj(P:Program)(S:Yo)(n:Nat)(cs:List (Nat×AV))(live names:List Nat)(x:M0)(st:St)(rs:List R9):St:=
 match kB P S n cs live names x st rs with
 | some r=>r.1
 | none=>st
def kE(r:Option (St×List Prop×Bool)):Option (Prop×Bool):=
 match r with
 | some r=>some (SK r.2.1,r.2.2)
 | none=>none
theorem gR{x:M0}{st:St}{n:Nat}{H:List (Nat×Own)}(q:RgQ P Γ n H)(live names:List Nat)(cs:List (Nat×AV))(rs:List R9){O:Prop}(hO:O)
  (k:GG P Γ K (li x) (lj P (Spec P) n cs live names x st rs))
  (h:kE (kB P (Spec P) n cs live names x st rs)=some (O,true):=by kernel_rfl) (hh:(H.all λx=>Bw x.1 names)=true:=by kernel_rfl):GG P Γ K x st:=by
 unfold kB at h;unfold lj kB at k
 cases x with
 | out e fs=>simp[lr,kE]at h
 | run c fs=>
  cases c with
  | region id ops draw=>
   simp only[lr]at h k
   cases hr:FC P _ n cs _ _ _ _ st rs with
   | none=>rw[hr]at h;simp[kE]at h
   | some r=>
    obtain⟨st',obs,d⟩:=r;rw[hr]at h k;obtain⟨rfl,rfl⟩:=h;have:=XB (id:=id)  q.hn q.mix (q.hand hh) hr hO (Zh k);exact(by simpa using this:T0 P Γ _ _ st)
  | _=>simp[lr,kE]at h
theorem Ak{x:M0}{st:St}{n:Nat}{H:List (Nat×Own)}(q:RgQ P Γ n H)(live names:List Nat)
  (k:GG P Γ K (li x) (lj P (Spec P) n [] live names x st []))
  (h:kE (kB P (Spec P) n [] live names x st [])=some (True,true):=by kernel_rfl) (hh:(H.all λx=>Bw x.1 names)=true:=by kernel_rfl):GG P Γ K x st:=gR q _ _ [] [] trivial k h hh
def m9:M0->Bool | .run _ _=>true|_=>false
theorem gLe{x:M0}{st st':St}(h:Le Γ st st')
  (k:GG P Γ K x st')
  (hx:m9 x=true:=by kernel_rfl):GG P Γ K x st:=by
 cases x with
 | run c fs=>exact fh h k
 | out e fs=>cases hx
theorem Td{x:M0}{st:St}(st':St)
  (k:GG P Γ K x st')
  (h:st=st':=by kernel_rfl):GG P Γ K x st:=h▸k
def gY(x:M0)(st:St):AV:=match x with | .run (.cond c _ _) _=>SR st.get c|_=>.any
def qG(b:Bool):M0->M0
 | .run (.cond _ c d) fs=>mz (bif b then c else d) fs
 | x=>x
theorem gC{x:M0}{st:St}{R:Type}{b:Bool}{m1 m2:Option R}{r:R}(h:(bif b then m1 else m2)=some r)
  (kt:m1=some r->GG P Γ K (qG true x) st) (kf:m2=some r->GG P Γ K (qG false x) st)
  (hv:gY x st = .bool b:=by kernel_rfl):GG P Γ K x st:=by
 cases x with
 | out e fs=>cases hv
 | run c fs=>
  cases c with
  | cond c y z=>
   refine SB b hv (λhb=>Ir  (kt ?_)) (λhb=>Ir  (kf ?_))
   ·subst hb;exact h
   ·subst hb;exact h
  | _=>cases hv
theorem gw{x:M0}{st:St}(b:Bool)
  (k:GG P Γ K (qG b x) st)
  (hv:gY x st = .bool b:=by kernel_rfl):GG P Γ K x st:=by
 cases x with
 | out e fs=>cases hv
 | run c fs=>
  cases c with
  | cond c y z=>
   refine SB b hv (λhb=>Ir (n:=400) ?_) (λhb=>Ir (n:=400) ?_)
   ·subst hb;exact k
   ·subst hb;exact k
  | _=>cases hv
theorem qS{x:M0}{st:St}(pos:Bool)(n:Nat)
  (kt:(pos=true->n=0)->GG P Γ K (qG true x) st) (kf:(pos=false->n=0)->GG P Γ K (qG false x) st)
  (hv:gY x st = .nilq pos n:=by kernel_rfl):GG P Γ K x st:=by
 cases x with
 | out e fs=>cases hv
 | run c fs=>
  cases c with
  | cond c y z=>exact fk pos n hv (λhb=>Ir  (kt hb)) (λhb=>Ir  (kf hb))
  | _=>cases hv
theorem gB{R:Type}{c:Bool}{m1 m2:Option R}{r:R}{G:Prop}(h:(bif c then m1 else m2)=some r)(kt:c=true->m1=some r->G)(kf:c=false->m2=some r->G):G:=by
 grind
theorem rX(F:Bool->Prop){c b:Bool}(hs:c=b)(h:F c):F b:=hs▸h
theorem lt1{P:Nat->Prop}(h0:P 0)(i:Nat)(h:i<1):P i:=by
 grind
theorem gK{x:M0}{st:St}{e:Exit}(h:K e st)(hx:x = .out e []:=by kernel_rfl):GG P Γ K x st:=by subst hx;exact h
def aG(Γ:G2)(e0:Exit)(og:St):Exit->St->Prop:=λe st=>e=e0/\Le Γ st og
def aR(K:Exit->St->Prop):Exit->St->Prop:=λe st=>e = .ret/\K e st
theorem C3{e0:Exit}{og st:St}(h:Le Γ st og):aG Γ e0 og e0 st:=⟨rfl,h⟩
theorem O8{st:St}(h:K .ret st):aR K .ret st:=⟨rfl,h⟩
def tY:Exit->Bool | .normal=>true|_=>false
theorem gN{S X:Type}{x:M0}{st:St}{H:S->St}{KX:X->Exit->St->Prop}{s':S}(h:Le Γ st (H s'))(hx:x = .out .normal []:=by kernel_rfl):GG P Γ (CB Γ H KX (.next s')) x st:=by
 subst hx;exact⟨rfl,h⟩
theorem gO{S X:Type}{x:M0}{st:St}{H:S->St}{KX:X->Exit->St->Prop}{y:X}{e:Exit}(h:KX y e st)(hx:x = .out e []:=by kernel_rfl)(hn:tY e=false:=by kernel_rfl):GG P Γ (CB Γ H KX (.done y)) x st:=by
 subst hx;exact⟨(by rintro rfl;cases hn),h⟩
def fK(P:Program)(Γ:G2)(rs:List ResultVar)(H:List (Nat×Own))(res:AV)(H':List (Nat×Own)):Exit->St->Prop:=tD Γ (qi P rs H res H')
theorem J1{rs:List ResultVar}{H H':List (Nat×Own)}{res:AV}{st st':St}{e:Exit}(ρ:List (Nat×Nat))(hl:Le Γ st st')(hr:bw P rs ρ H st'=some (res,H'):=by kernel_rfl)
  (he:(match e with | .ret=>true | .normal=>true|_=>false)=true:=by kernel_rfl):fK P Γ rs H res H' e st:=by
 refine⟨st',hl,?_,ρ,hr⟩
 cases e with
 | ret=>exact .inl rfl
 | normal=>exact .inr rfl
 | _=>cases he
theorem Dm{rs:List ResultVar}{H H':List (Nat×Own)}{res:AV}{x:M0}{st:St}(ρ:List (Nat×Nat))(hr:bw P rs ρ H st=some (res,H'):=by kernel_rfl)
  (hx:x = .out .ret []:=by kernel_rfl):GG P Γ (fK P Γ rs H res H') x st:=gK  (J1 ρ (Le.refl _ _) hr) hx
def OY(fn:Func):Code:=match fn.body with|some c=>c|none=>.skip
theorem CC {f : FuncId} {fn : Func} {args : List AV} {H H' : List (Nat × Own)} {res : AV} (hm : P.follows .mixedOrders = true) (hf : P.funcs[f]? = some fn)
    (k : ∀ Γ : G2, RgQ P Γ fn.ntmps H → GG P Γ (fK P Γ fn.results.toList H res H') (mz (OY fn) []) (AZ args H))
    (hb : fn.body.isSome = true := by kernel_rfl) (hname : (fn.name == "runtime.NumGoroutine") = false := by kernel_rfl) (hlen : Nat.ble args.length fn.ntmps = true := by kernel_rfl) (hpl : IH H = true := by kernel_rfl) : Spec P f args H res H' := by
  obtain ⟨c, hc⟩ := zzL76.1 hb
  have e : OY fn = c := by unfold OY; rw [hc]
  refine VC hf hc hname hlen (fun Γ hn hΓ => ?_) hpl; have := k Γ ⟨hn, hm, hΓ⟩; rw [e] at this; exact nz (Ir this)
theorem iG{st st':St}(h:st=st'):Le Γ st st':=h▸Le.refl Γ st
def XS:M0->Bool | .run (.loop _) _=>true|_=>false
def mr:M0->M0
 | .run (.loop c) _=>mz c []
 | x=>x
def oi(e:Exit):M0->M0
 | .run _ fs=>sa e fs
 | x=>x
def qf{α:Type}(k:Nat)(x:α):List (Nat×α)->List (Nat×α)
 | []=>[(k,x)]
 | (k',y)::l=>bif Nat.beq k k' then(k,x)::l else bif Nat.blt k k' then(k,x)::(k',y)::l else(k',y)::qf k x l
def lw{α:Type}:List (Nat×α)->List (Nat×α)->List (Nat×α)
 | [],l=>l
 | (k,x)::r,l=>lw r (qf k x l)
def Ek(st:St)(ts:List (Nat×AV))(os:List (Nat×Own))(fs:List (Nat×eE):=[]):St:=⟨lw ts st.tmps,lw os st.own,lw fs st.fam⟩
def T9(live names:List Nat)(st:St)(ts:List (Nat×AV))(os:List (Nat×Own))(fs:List (Nat×eE):=[]):St:=E9 live names (Ek st ts os fs)
theorem gL{S X:Type}{x:M0}{st:St}{n:Nat}{Hf:List (Nat×Own)}(q:RgQ P Γ n Hf){f:S->Option (LR S X)}{s0:S}{y:X}(hx:Af f s0=some y)(live names:List Nat)(H:St->S->St)(KX:St->X->Exit->St->Prop)
  (kb:∀ s y,f s=some y->GG P Γ (CB Γ (H (E9 live names st)) (KX (E9 live names st)) y) (mr x) (H (E9 live names st) s)) (ko:∀ e st',KX (E9 live names st) y e st'->GG P Γ K (oi e x) st')
  (h0:E9 live names st=H (E9 live names st) s0:=by kernel_rfl) (hl:XS x=true:=by kernel_rfl) (hh:(Hf.all λx=>Bw x.1 names)=true:=by kernel_rfl):GG P Γ K x st:=by
 cases x with
 | out e fs=>cases hl
 | run c fs=>
  cases c with
  | loop c=>
   refine fh  ?_ (fi _ f _ (λs y hy=>Ir (kb s y hy)) hx λe st' hk=>Zh (ko e st' hk));rw[<- h0];exact Cw _ _ q rfl hh
  | _=>cases hl
theorem gA{x:M0}{f:Exit->M0->M0}{e0:Exit}{og:St}
  (k:GG P Γ K (f e0 x) og)
  (hr:m9 (f e0 x)=true:=by kernel_rfl):∀ e st',aG Γ e0 og e st'->GG P Γ K (f e x) st':=by
 rintro e st' ⟨rfl,hl⟩;exact gLe hl k hr
theorem my{x:M0}{f:Exit->M0->M0}{e0:Exit}{og:St}(k:∀ st',Le Γ st' og->GG P Γ K (f e0 x) st'):∀ e st',aG Γ e0 og e st'->GG P Γ K (f e x) st':=by
 rintro e st' ⟨rfl,hl⟩;exact k st' hl
theorem Uq{x:M0}{f:Exit->M0->M0}{K':Exit->St->Prop}(k:∀ st',K' .ret st'->GG P Γ K (f .ret x) st'):∀ e st',aR K' e st'->GG P Γ K (f e x) st':=by
 rintro e st' ⟨rfl,hl⟩;exact k st' hl
theorem gU{x:M0}{st:St}(n:Nat)
  (k:GG P Γ K (match x with | .run (.loop c) fs=>mz c (.ag c n::fs)|x=>x) st)
  (hl:XS x=true:=by kernel_rfl):GG P Γ K x st:=by
 cases x with
 | out e fs=>cases hl
 | run c fs=>
  cases c with
  | loop c=>exact XC (n+1) (Ir k)
  | _=>cases hl
def qV:M0->Bool | .run (.seq _ _) _=>true|_=>false
def qT:M0->M0
 | .run (.seq a _) _=>mz a []
 | x=>x
def qh(e:Exit):M0->M0
 | .run (.seq _ b) fs=>sa e (.nx b::fs)
 | x=>x
theorem gJ{X:Type}{x:M0}{st:St}{m:Option X}{y:X}(hx:m=some y)(KX:X->Exit->St->Prop)
  (kb:∀ y,m=some y->GG P Γ (KX y) (qT x) st) (ko:∀ e st',KX y e st'->GG P Γ K (qh e x) st')
  (hs:qV x=true:=by kernel_rfl):GG P Γ K x st:=by
 cases x with
 | out e fs=>cases hs
 | run c fs=>
  cases c with
  | seq a b=>exact ax (fg KX hx (λy hy=>Ir (kb y hy)) λe st' hk=>Zh (ko e st' hk))
  | _=>cases hs
def lQ:M0->Bool | .run (.scope _) _=>true|_=>false
def qk:M0->Code | .run (.scope c) _=>c|_=>.skip
def qZ(c:Code)(l:Nat):M0:=mz ((findLabel c l).getD .skip) []
theorem gS{S X:Type}{x:M0}{st:St}{f0:Option (LR S X)}{f:S->Option (LR S X)}{y:X}(hx:Nj f0 f=some y)(lab:S->Nat)(H:S->St)(KX:X->Exit->St->Prop)
  (k0:∀ y,f0=some y->GG P Γ (GZ Γ (qk x) lab H KX y) (mz (qk x) []) st) (kb:∀ s y,f s=some y->GG P Γ (GZ Γ (qk x) lab H KX y) (qZ (qk x) (lab s)) (H s)) (ko:∀ e st',KX y e st'->GG P Γ K (oi e x) st')
  (hs:lQ x=true:=by kernel_rfl):GG P Γ K x st:=by
 cases x with
 | out e fs=>cases hs
 | run c fs=>
  cases c with
  | scope c=>
   refine cr lab H f0 f KX (λy hy=>Ir (k0 y hy)) (λs y rest hf hy=>?_) hx λe st' hk=>Zh (ko e st' hk);have:=kb s y hy;unfold qZ qk at this;rw[hf]at this;exact Ir this
  | _=>cases hs
theorem XM{S X:Type}{x:M0}{st:St}{c:Code}{lab:S->Nat}{H:S->St}{KX:X->Exit->St->Prop}{s':S}(h:Le Γ st (H s'))(hx:x = .out (.goto (lab s')) []:=by kernel_rfl)(hf:(findLabel c (lab s')).isSome=true:=by kernel_rfl) :
  GG P Γ (GZ Γ c lab H KX (.next s')) x st:=by
 subst hx;exact⟨rfl,hf,h⟩
theorem WI{S X:Type}{x:M0}{st:St}{c:Code}{lab:S->Nat}{H:S->St}{KX:X->Exit->St->Prop}{y:X}{e:Exit}(h:KX y e st)(hx:x = .out e []:=by kernel_rfl)
  (hf:(match e with | .goto l=>(findLabel c l).isNone|_=>true)=true:=by kernel_rfl):GG P Γ (GZ Γ c lab H KX (.done y)) x st:=by
 subst hx;refine⟨?_,h⟩;rintro l rfl
 simpa using hf
theorem Pv{α:Type}{st:St}(U:α->St->St){a b:α}(h:a=b)(h1:st=U a st:=by kernel_rfl):Le Γ st (U b st):=by subst h;exact iG h1
theorem se{st:St}(F F':Bool->St->St)(g:Bool)(h1:st=F g st:=by kernel_rfl)(ht:F true st=F' true st:=by kernel_rfl)(hf:F false st=F' false st:=by kernel_rfl):Le Γ st (F' g st):=by
 refine iG (h1.trans ?_)
 cases g<;>assumption
def Own.withF(g:Nat->List AV):Own->Own
 | .arr sz e n _=>.arr sz e n g
 | o=>o
def mo(st:St)(nm:Nat):Option (Nat×(Nat->List AV)):=match Ae st.own nm with|some (.arr _ _ n f)=>some (n,f)|_=>none
def qm(nm:Nat)(g:Nat->List AV)(st:St):St:=⟨st.tmps,(match Ae st.own nm with|some o=>C9 st.own nm (o.withF g)|none=>st.own),st.fam⟩
theorem ID{nm sz n:Nat}{e:TypeId}{f g:Nat->List AV}(hp:∀ k,k<n->AVleL (f k) (g k)):∀{l:List (Nat×Own)},Ae l nm=some (.arr sz e n f)->OwnsLe l (C9 l nm (.arr sz e n g))
 | [],h=>by cases h
 | (k,o)::l,h=>by
  simp only[Ae]at h;simp only[C9]
  cases hb:Nat.beq k nm with
  | true=>
   obtain rfl:=Ce hb;rw[hb]at h;simp only[Ai,Ah]at h;subst h;exact .arr hp (.refl _)
  | false=>
   rw[hb]at h;exact .same (ID hp h)
theorem Qt{st:St}(nm:Nat){n:Nat}{f g:Nat->List AV}(hp:∀ k,k<n->AVleL (f k) (g k))(h:mo st nm=some (n,f):=by kernel_rfl):Le Γ st (qm nm g st):=by
 unfold mo at h;unfold qm
 cases ho:Ae _ nm with
 | none=>rw[ho]at h;cases h
 | some o=>
  rw[ho]at h
  cases o with
  | arr sz e n' f'=>
   obtain⟨rfl,rfl⟩:=h;exact Re (TmpsLe.refl _) (ID hp ho)
  | _=>cases h
def gE(st:St)(nm j:Nat):Option AV:=match Ae st.own nm with|some (.row _ cells)=>cells[j]? | _=>none
def Own.withC(j:Nat)(x:AV):Own->Own
 | .row e cells=>.row e (cells.set j x)
 | o=>o
def ql(nm j:Nat)(x:AV)(st:St):St:=⟨st.tmps,(match Ae st.own nm with|some o=>C9 st.own nm (o.withC j x)|none=>st.own),st.fam⟩
theorem bb{a b:AV}(h:AVle a b):∀{l:List AV} {j:Nat},l[j]?=some a->AVleL l (l.set j b)
 | [],j,h=>by simp at h
 | x::l,0,h'=>by
  simp only[List.getElem?_cons_zero,Ah]at h';subst h';exact .cons h (.refl _)
 | x::l,j+1,h'=>by
  exact .cons (.refl _) (bb h h')
theorem IE{nm:Nat}{e:TypeId}{x y:List AV}(hp:AVleL x y):∀{l:List (Nat×Own)},Ae l nm=some (.row e x)->OwnsLe l (C9 l nm (.row e y))
 | [],h=>by cases h
 | (k,o)::l,h=>by
  simp only[Ae]at h;simp only[C9]
  cases hb:Nat.beq k nm with
  | true=>
   obtain rfl:=Ce hb;rw[hb]at h;simp only[Ai,Ah]at h;subst h;exact .row hp (.refl _)
  | false=>
   rw[hb]at h;exact .same (IE hp h)
theorem lW{st:St}(nm j:Nat){a b:AV}(hp:AVle a b)(h:gE st nm j=some a:=by kernel_rfl):Le Γ st (ql nm j b st):=by
 unfold gE at h;unfold ql
 cases ho:Ae _ nm with
 | none=>rw[ho]at h;cases h
 | some o=>
  rw[ho]at h
  cases o with
  | row e cells=>exact Re (TmpsLe.refl _) (IE (bb hp h) ho)
  | _=>cases h
theorem gI(g:Bool):g=true->g=true:=id
theorem P5(c:Bool):c=true->(c==true)=true:=gT
theorem FM(c:Bool):c=false->(c==false)=true:=gF
theorem Bx{α:Type}(sz:Nat)(e:α->List AV)(d:α)(l:List α):AVle (.slice sz l.length (λi=>(l.map e).getD i []) .exact) (AV.list sz e d l .exact):=OX rfl λi h=>lb l i h
theorem Dp{α:Type}(sz:Nat)(e:α->List AV)(d:α):AVle (.slice 0 0 (λ_=>[]) .exact) (AV.list sz e d [] .exact):=Fe
theorem Ot{α:Type}(sz nm:Nat)(e:α->List AV)(d:α)(l m:List α):AVle (.slice sz (l.length+m.length) (Km l.length (λi=>e (l.getD i d)) (λi=>e (m.getD i d))) (.own nm)) (AV.list sz e d (l++m) (.own nm)):=ny
theorem Mf{st st':St}(h:st=st':=by kernel_rfl):Le Γ st st':=h▸Le.refl Γ st
theorem ci{p q:Prop}(a:p)(b:q):p/\q:=⟨a,b⟩
theorem c1{p:Prop}(a:p):p/\True:=⟨a,trivial⟩
end
section
variable {P:Program} {Γ:G2} {K:Exit->St->Prop}
theorem tB{α β:Type}{m:Option α}{f:α->Option β}{r:β}{G:Prop}(h:m.bind f=some r)(k:∀ x,m=some x->f x=some r->G):G:=have⟨x,hx,h⟩:=bind_some h;k x hx h
theorem tC{β:Type}{c:Prop}[Decidable c]{m:Option β}{r:β}{G:Prop}(h:Bh c m=some r)(k:c->m=some r->G):G:=k (Mc h).1 (Mc h).2
@[elab_as_elim] theorem tS{α:Type}{a:α}{M:α->Prop}{b:α}(h:some a=some b)(k:M a):M b:=OI h▸k
theorem tV{x:M0}{st:St}{n:Nat}{H:List (Nat×Own)}(q:RgQ P Γ n H)(live names:List Nat){β:Type}{c:Prop}[Decidable c]{m:Option β}{r:β}(h:Bh c m=some r)
  (k:m=some r->GG P Γ K (li x) (lj P (Spec P) n [] live names x st []))
  (h1:kE (kB P (Spec P) n [] live names x st [])=some (c/\True,true):=by kernel_rfl) (hh:(H.all λx=>Bw x.1 names)=true:=by kernel_rfl):GG P Γ K x st:=gR q live names [] [] (c1 (Mc h).1) (k (Mc h).2) h1 hh
theorem tN{S X:Type}{x:M0}{st:St}{H:S->St}{KX:X->Exit->St->Prop}{s':S}{y:LR S X}(h:some (.next s')=some y)(h1:st=H s':=by kernel_rfl)(hx:x = .out .normal []:=by kernel_rfl):GG P Γ (CB Γ H KX y) x st:=OI h▸gN (Mf h1) hx
theorem tL{S X α:Type}{x:M0}{st:St}{n:Nat}{Hf:List (Nat×Own)}(q:RgQ P Γ n Hf){f:S->Option (LR S X)}{s0:S}{g:X->Option α}{r:α}(h:(Af f s0).bind g=some r)(live names:List Nat)(H:St->S->St)(KX:St->X->Exit->St->Prop)
  (kb:∀ s y,f s=some y->GG P Γ (CB Γ (H (E9 live names st)) (KX (E9 live names st)) y) (mr x) (H (E9 live names st) s)) (ko:∀ y,g y=some r->∀ e st',KX (E9 live names st) y e st'->GG P Γ K (oi e x) st')
  (h0:E9 live names st=H (E9 live names st) s0:=by kernel_rfl) (hl:XS x=true:=by kernel_rfl) (hh:(Hf.all λx=>Bw x.1 names)=true:=by kernel_rfl):GG P Γ K x st:=tB h λy hy h=>gL q hy live names H KX kb (ko y h) h0 hl hh
theorem tU{x:M0}{st:St}{n:Nat}{H:List (Nat×Own)}(q:RgQ P Γ n H)(live names:List Nat){O:Prop}(hO:O)
  (k:GG P Γ K (li x) (lj P (Spec P) n [] live names x st []))
  (h:kE (kB P (Spec P) n [] live names x st [])=some (O,true):=by kernel_rfl) (hh:(H.all λx=>Bw x.1 names)=true:=by kernel_rfl):GG P Γ K x st:=gR q live names [] [] hO k h hh
theorem tT{x:M0}{st:St}{n:Nat}{H:List (Nat×Own)}(q:RgQ P Γ n H)(live names:List Nat)(rs:List R9){O:Prop}(hO:O)
  (k:GG P Γ K (li x) (lj P (Spec P) n [] live names x st rs))
  (h:kE (kB P (Spec P) n [] live names x st rs)=some (O,true):=by kernel_rfl) (hh:(H.all λx=>Bw x.1 names)=true:=by kernel_rfl):GG P Γ K x st:=gR q live names [] rs hO k h hh
theorem tW{x:M0}{st:St}{n:Nat}{H:List (Nat×Own)}(q:RgQ P Γ n H)(live names live2 names2:List Nat)
  (k:GG P Γ K (li (li x)) (lj P (Spec P) n [] live2 names2 (li x) (lj P (Spec P) n [] live names x st []) []))
  (h:kE (kB P (Spec P) n [] live names x st [])=some (True,true):=by kernel_rfl) (hh:(H.all λx=>Bw x.1 names)=true:=by kernel_rfl)
  (h2:kE (kB P (Spec P) n [] live2 names2 (li x) (lj P (Spec P) n [] live names x st []) [])=some (True,true):=by kernel_rfl) (hh2:(H.all λx=>Bw x.1 names2)=true:=by kernel_rfl):GG P Γ K x st:=Ak q live names (Ak q live2 names2 k h2 hh2) h hh
end
def sY:List Own->Prop->Prop
 | [],p=>p
 | o::l,p=>some o=some o/\sY l p
theorem mF:∀(l:List Own) {p:Prop},p->sY l p
 | [],_,h=>h
 | _::l,_,h=>⟨rfl,mF l h⟩
theorem rZ(l:List Own):sY l True:=mF l trivial
theorem V4{R:Prop}(g:Bool)(r:R):(g=true->g=true)/\((g=true->g=true)/\(R)):=⟨id,⟨id,r⟩⟩
theorem dK{R:Prop}(g:Bool)(r:R):(g=true->g=true)/\((g=true->g=true)/\((g=true->g=true)/\(R))):=⟨id,⟨id,⟨id,r⟩⟩⟩
theorem lL{R:Prop}(g:Bool)(r:R):(g=true->g=true)/\((g=true->g=true)/\((g=true->g=true)/\((g=true->g=true)/\(R)))):=⟨id,⟨id,⟨id,⟨id,r⟩⟩⟩⟩
theorem pH{R:Prop}(g:Bool)(r:R):(g=true->g=true)/\((g=true->g=true)/\((g=true->g=true)/\((g=true->g=true)/\((g=true->g=true)/\(R))))):=⟨id,⟨id,⟨id,⟨id,⟨id,r⟩⟩⟩⟩⟩
theorem tE{R:Prop}(g:Bool)(r:R):(g=true->g=true)/\((g=true->g=true)/\((g=true->g=true)/\((g=true->g=true)/\((g=true->g=true)/\((g=true->g=true)/\((g=true->g=true)/\(R))))))):=⟨id,⟨id,⟨id,⟨id,⟨id,⟨id,⟨id,r⟩⟩⟩⟩⟩⟩⟩
theorem tR{R:Prop}(g:Bool)(r:R):(g=true->g=true)/\((g=true->g=true)/\((g=true->g=true)/\((g=true->g=true)/\((g=true->g=true)/\((g=true->g=true)/\((g=true->g=true)/\((g=true->g=true)/\(R)))))))):=⟨id,⟨id,⟨id,⟨id,⟨id,⟨id,⟨id,⟨id,r⟩⟩⟩⟩⟩⟩⟩⟩
theorem tX{R:Prop}(g:Bool)(r:R):(g=true->g=true)/\((g=true->g=true)/\((g=true->g=true)/\((g=true->g=true)/\((g=true->g=true)/\((g=true->g=true)/\((g=true->g=true)/\((g=true->g=true)/\((g=true->g=true)/\(R))))))))):=⟨id,⟨id,⟨id,⟨id,⟨id,⟨id,⟨id,⟨id,⟨id,r⟩⟩⟩⟩⟩⟩⟩⟩⟩
theorem kA{p0 p1 R:Prop}(a0:p0)(a1:p1)(r:R):p0/\p1/\R:=⟨a0,a1,r⟩
theorem c2{p0 p1:Prop}(a0:p0)(a1:p1):p0/\p1/\True:=⟨a0,a1,trivial⟩
theorem rW{p0 p1 p2 R:Prop}(a0:p0)(a1:p1)(a2:p2)(r:R):p0/\p1/\p2/\R:=⟨a0,a1,a2,r⟩
theorem c3{p0 p1 p2:Prop}(a0:p0)(a1:p1)(a2:p2):p0/\p1/\p2/\True:=⟨a0,a1,a2,trivial⟩
theorem tO{p0 p1 p2 p3 R:Prop}(a0:p0)(a1:p1)(a2:p2)(a3:p3)(r:R):p0/\p1/\p2/\p3/\R:=⟨a0,a1,a2,a3,r⟩
theorem c4{p0 p1 p2 p3:Prop}(a0:p0)(a1:p1)(a2:p2)(a3:p3):p0/\p1/\p2/\p3/\True:=⟨a0,a1,a2,a3,trivial⟩
theorem tP{p0 p1 p2 p3 p4 R:Prop}(a0:p0)(a1:p1)(a2:p2)(a3:p3)(a4:p4)(r:R):p0/\p1/\p2/\p3/\p4/\R:=⟨a0,a1,a2,a3,a4,r⟩
theorem c5{p0 p1 p2 p3 p4:Prop}(a0:p0)(a1:p1)(a2:p2)(a3:p3)(a4:p4):p0/\p1/\p2/\p3/\p4/\True:=⟨a0,a1,a2,a3,a4,trivial⟩
theorem c6{p0 p1 p2 p3 p4 p5:Prop}(a0:p0)(a1:p1)(a2:p2)(a3:p3)(a4:p4)(a5:p5):p0/\p1/\p2/\p3/\p4/\p5/\True:=⟨a0,a1,a2,a3,a4,a5,trivial⟩
theorem c7{p0 p1 p2 p3 p4 p5 p6:Prop}(a0:p0)(a1:p1)(a2:p2)(a3:p3)(a4:p4)(a5:p5)(a6:p6):p0/\p1/\p2/\p3/\p4/\p5/\p6/\True:=⟨a0,a1,a2,a3,a4,a5,a6,trivial⟩
theorem c8{p0 p1 p2 p3 p4 p5 p6 p7:Prop}(a0:p0)(a1:p1)(a2:p2)(a3:p3)(a4:p4)(a5:p5)(a6:p6)(a7:p7):p0/\p1/\p2/\p3/\p4/\p5/\p6/\p7/\True:=⟨a0,a1,a2,a3,a4,a5,a6,a7,trivial⟩
theorem sZ{p0 p1 p2 p3 p4 p5 p6 p7 p8 R:Prop}(a0:p0)(a1:p1)(a2:p2)(a3:p3)(a4:p4)(a5:p5)(a6:p6)(a7:p7)(a8:p8)(r:R):p0/\p1/\p2/\p3/\p4/\p5/\p6/\p7/\p8/\R:=⟨a0,a1,a2,a3,a4,a5,a6,a7,a8,r⟩
theorem c9{p0 p1 p2 p3 p4 p5 p6 p7 p8:Prop}(a0:p0)(a1:p1)(a2:p2)(a3:p3)(a4:p4)(a5:p5)(a6:p6)(a7:p7)(a8:p8):p0/\p1/\p2/\p3/\p4/\p5/\p6/\p7/\p8/\True:=⟨a0,a1,a2,a3,a4,a5,a6,a7,a8,trivial⟩
open Go.Shelf
def groRen:Go.Shelf.Ren:=⟨fun|4=>139|n=>n,fun|22=>60|25=>70|n=>n,fun|n=>n⟩
theorem ba : Go.Proofs.Lays8.n4 Tryz.prog groRen := {
  mixed := by kernel_rfl
  f4 := ⟨"slices.Grow[[]lockstep/api.Op,lockstep/api.Op]", by decide, Tryz.func139.trans (Bi some (by kernel_rfl))⟩
  t0 := Tryz.underlying0
  a0 := Tryz.isAgg0
  z0 := Tryz.sizeOf0
  v0 := Tryz.zeroValue0
  t3 := Tryz.underlying3
  a3 := Tryz.isAgg3
  z3 := Tryz.sizeOf3
  v3 := Tryz.zeroValue3
  t4 := Tryz.underlying4
  a4 := Tryz.isAgg4
  z4 := Tryz.sizeOf4
  v4 := Tryz.zeroValue4
  t9 := Tryz.underlying9
  a9 := Tryz.isAgg9
  z9 := Tryz.sizeOf9
  v9 := Tryz.zeroValue9
  t20 := Tryz.underlying20
  a20 := Tryz.isAgg20
  z20 := Tryz.sizeOf20
  v20 := Tryz.zeroValue20
  t22 := Tryz.underlying60
  a22 := Tryz.isAgg60
  z22 := Tryz.sizeOf60
  v22 := Tryz.zeroValue60 }
def ZL{α:Type}(n:Int):Option (List α):=Bh (0<=n/\n<=1000000) (some [])
theorem bT{s:Nat}{e:TypeId}:As (Ae ([]:List (Nat×Own))) 20000 (.tok s e 0)=Ae [(20000,.tok s e 0)]:=by
 funext k
 by_cases h:k=20000
 ·subst h;simp[As,Ae]
 ·have h2:Nat.beq 20000 k=false:=by
   cases hb:Nat.beq 20000 k with
   | false=>rfl
   | true=>exact absurd (Ce hb).symm h
  simp[As,Ae,h,h2]
theorem jU{α:Type}(n:Int)(r:List α)(h:ZL n=some r){e:α->List AV}{d:α} :
  Spec Tryz.prog 139 [.slice 0 0 (λ_=>[]) .exact,.int .i64 n] [] (AV.list 6 e d r (.own 20000)) [(20000,.tok 6 70 r.length)]:=by
 obtain⟨⟨h0,h1⟩,h⟩:=Mc h;obtain rfl:=OI h;obtain⟨k,rfl⟩:=Int.eq_ofNat_of_zero_le h0;refine⟨enters_of Tryz.func139 (by kernel_rfl) rfl,λw I θ zs hargs hrel hval _=>?_⟩;obtain⟨zs⟩:=zs
 cases hargs with|cons hA t=>cases t with|cons hB t=>cases t with|nil=>
 obtain rfl:=Rep.int_inv hB
 obtain⟨a,hav⟩:∃ a,‹Value› = .slice a 0 0:=by
  cases hA with
  | val v x h=>cases h
  | exact a n sz f h=>exact⟨a,rfl⟩
 subst hav
 show Calls _ _ _ _ _
 have rep0:∀(I:Nat->Nat->Prop) (θ:Nat->Option (Nat×Nat)) (w:World) (a:Option Addr) (c:Nat),c<=maxLen->(a=none->c=0)->(match θ 20000 with|none=>c=0|some (g,c')=>a=some ⟨g,0,none⟩/\c=c')->
   Rep I (Ae [(20000,.tok 6 70 0)]) θ w (.slice a 0 c) (AV.list 6 e d [] (.own 20000)):=λI θ w a c hm hn hv=>
  .own 20000 _ 70 0 a 0 c _ rfl (zzL5 _) (λ_=>hv) (.slice a 0 c _ _ (λ_=>undef) (Lz _) hm (λh=>by omega) hn (λj hj=>by omega) (λi hi=>by omega) (λi c hi=>by omega))
 by_cases hk:k=0
 ·subst hk;refine(Any8.slices_Grow_room ba a 0 0 0 w (zzL5 _) (by decide) (by decide) (by decide)).mono ?_;rintro ev w' ⟨rfl,hw⟩;rw[hw];have hc:=V0 (nm:=20000) (s:=6) (e:=70) (m':=0) (t':=none) (I':=I) (w':=w) hrel (λ_ _ h=>h) (λ_ _ _=>rfl) (.inl rfl) (λ_ _ _=>rfl) (λ_ _ h=>.inl h) hval rfl rfl rfl (zzL5 _)
   (λ_ _ h=>by cases h) (λ_ _ h=>by cases h) (λ_ _=>rfl)
  rw[bT]at hc;exact⟨_,I,_,rfl,hc,rep0 _ _ _ _ _ (Lz _) (λ_=>rfl) (by simp[thUp])⟩
 ·cases hi:Tryz.prog.info? 70 with
  | none=>exact absurd (show(Tryz.prog.info? 70).isSome=true by kernel_rfl) (by rw[hi];simp)
  | some i0=>
   have e1:(Tryz.prog.info? 70).map (·.size)=some 6:=by kernel_rfl
   have e2:((Tryz.prog.info? 70).bind (·.zero)).map (·.cells.size)=some 6:=by kernel_rfl
   have e3:Nat.ble (((Tryz.prog.info? 70).map (·.bytes)).getD 1000) 128=true:=by kernel_rfl
   rw[hi]at e1 e2 e3;simp only[Ye,Ah,Ax,CK]at e1 e2 e3;have e3:=Hr e3
   cases hz:i0.zero with
   | none=>rw[hz]at e2;cases e2
   | some z=>
    rw[hz]at e2;simp only[Ye,Ah]at e2
    have hb:(0+k)*i0.bytes<=140737488355328:=by
     have:(0+k)*i0.bytes<=1000000*128:=Nat.mul_le_mul (by omega) e3;omega
    refine(Any8.slices_Grow_grow ba i0 z hi hz (by omega) a 0 0 k [] w (zzL5 _) (by omega) hb (by omega) (by simp) (λ_=>rfl) (λ_ _ j v h=>by simp at h)).mono ?_;rintro ev w' ⟨rfl,rfl⟩;have hG:=grownCap_ge w (0+k) 0 70;have hG2:grownCap w (0+k) 0 70<=maxLen:=grownCap_le_maxLen w _ _ _ (by unfold maxLen;omega);have hG':grownCap w (0+k) 0 (groRen.t 25)=grownCap w (0+k) 0 70:=rfl;rw[hG']
    generalize grownCap w (0+k) 0 70=G at hG hG2
    have hlt:∀ b o,I b o->b<w.heap.size:=λb o hi=>by
     obtain⟨u,hu⟩:=hval b o hi;exact J2 hu
    have hold:∀(ob:Obj) (b:Nat),b<w.heap.size->(w.drew.alloc ob).heap[b]?=w.heap[b]?:=λob b hb=>by
     show(w.heap.push ob)[b]?=_
     rw[Array.getElem?_push,if_neg (Nat.ne_of_lt hb)]
    have hcell:∀(ob:Obj) (b o:Nat),I b o->(w.drew.alloc ob).cell? ⟨b,o,none⟩=w.cell? ⟨b,o,none⟩:=λob b o hi=>Xg (a:=⟨b,o,none⟩) (hold ob b (hlt b o hi));have hc:=V0 (nm:=20000) (s:=6) (e:=70) (m':=0) (t':=some (w.heap.size,G)) (I':=I) (w':=w.drew.alloc (.cells (([]:List Value).toArray++Builtin.zeroCells z.cells (0+k-0)++Builtin.zeroCells z.cells (G-(0+k))) 70)) hrel (λ_ _ h=>h) (hcell _) (.inl rfl) (λb hb _=>hold _ b hb) (λ_ _ h=>.inl h)
     (λb o hi=>by rw[hcell _ b o hi];exact hval b o hi) rfl rfl rfl (by show w.heap.size<=(w.heap.push _).size;simp)
     (λg c h=>by
      obtain⟨rfl,rfl⟩:=Prod.mk.inj (OI h);refine⟨_,0,Tn w.drew _,Lz _,hG2,?_,Lz _,λj hj=>absurd (hlt _ _ hj) (Xl _)⟩
      have hs:∀ x,((([]:List Value).toArray++Builtin.zeroCells z.cells (0+k-0))++Builtin.zeroCells z.cells x).size=(k+x)*6:=λx=>by
       simp only[Array.size_append,size_zeroCells,e2];simp[C6]
      exact(hs _).trans (Bi (·*6) (by omega)))
     (λg c h=>by
      obtain⟨rfl,rfl⟩:=Prod.mk.inj (OI h)
      exact .inl (zzL5 _)) (λh=>by cases h)
    rw[bT]at hc;exact⟨_,I,_,rfl,hc,rep0 _ _ _ _ _ hG2 (λh=>by cases h) (by simp[thUp])⟩
def insRen:Go.Shelf.Ren:=⟨fun|21=>193|27=>236|28=>237|35=>276|39=>196|n=>n,fun|22=>22|n=>n,fun|n=>n⟩
theorem Za:Go.Proofs.Lays2.n21 Tryz.prog insRen:={
 mixed:=by kernel_rfl
 f21:=Tryz.func193.trans (Bi some (by kernel_rfl))
 f27:=Tryz.func236.trans (Bi some (by kernel_rfl))
 f28:=Tryz.func237.trans (Bi some (by kernel_rfl))
 f35:=Tryz.func276.trans (Bi some (by kernel_rfl))
 f39:=Tryz.func196.trans (Bi some (by kernel_rfl))
 t0:=Tryz.underlying0
 a0:=Tryz.isAgg0
 z0:=Tryz.sizeOf0
 v0:=Tryz.zeroValue0
 t3:=Tryz.underlying3
 a3:=Tryz.isAgg3
 z3:=Tryz.sizeOf3
 v3:=Tryz.zeroValue3
 t4:=Tryz.underlying4
 a4:=Tryz.isAgg4
 z4:=Tryz.sizeOf4
 v4:=Tryz.zeroValue4
 t22:=Tryz.underlying22
 a22:=Tryz.isAgg22
 z22:=Tryz.sizeOf22
 v22:=Tryz.zeroValue22
 i3:=by kernel_rfl }
def KF(w:World)(g c:Nat):Prop:=∃ cur,w.heap[g]?=some (.cells cur 3 (0,0))/\cur.size=c
structure Lk(w w':World)(g:Nat):Prop where
 os:w'.os=w.os
 tape:w'.tape=w.tape
 output:w'.output=w.output
 drawn:w.drawn<=w'.drawn
 size:w.heap.size<=w'.heap.size
 other:∀ b,b<w.heap.size->b≠g->w'.heap[b]?=w.heap[b]?
 blk:∀ c,KF w g c->KF w' g c
theorem Lk.refl(w:World)(g:Nat):Lk w w g:=⟨rfl,rfl,rfl,zzL5 _,zzL5 _,λ_ _ _=>rfl,λ_ h=>h⟩
theorem Lk.trans{w w' w'':World}{g:Nat}(h:Lk w w' g)(k:Lk w' w'' g):Lk w w'' g:=
 ⟨k.os.trans h.os,k.tape.trans h.tape,k.output.trans h.output,Mx h.drawn k.drawn,Mx h.size k.size,λb hb hn=>(k.other b (Nat.lt_of_lt_of_le hb h.size) hn).trans (h.other b hb hn),λc hc=>k.blk c (h.blk c hc)⟩
theorem Wa(w:World)(g:Nat):Lk w w.drew g:=⟨rfl,rfl,rfl,Nat.le_succ _,zzL5 _,λ_ _ _=>rfl,λ_ h=>h⟩
theorem lY(w:World)(g o:Nat)(v:Value):Lk w (w.setCell ⟨g,o,none⟩ v) g:=
 ⟨rfl,rfl,rfl,zzL5 _,by simp[World.setCell],λb _ hn=>Below.heap_setCell w _ v b hn,λc ⟨cur,h1,h2⟩=>⟨_,heap_setCell_same w g o cur 3 v h1,by simpa using h2⟩⟩
theorem Rf(g:Nat):∀(vs:List Value) (o:Nat) (w:World),Lk w (w.setCells g o vs) g
 | [],_,w=>.refl w g
 | v::r,o,w=>(lY w g o v).trans (Rf g r (o+1) _)
theorem HI{w:World}{ob:Obj}{g:Nat}(hg:w.heap.size<=g):Lk w (w.alloc ob) g:=
 ⟨rfl,rfl,rfl,zzL5 _,by show w.heap.size<=(w.heap.push ob).size;simp,λb hb _=>by show(w.heap.push ob)[b]?=_;rw[Array.getElem?_push,if_neg (Nat.ne_of_lt hb)],λc ⟨cur,h1,_⟩=>by
  rw[Array.getElem?_eq_none hg]at h1;cases h1⟩
theorem AO{w:World}(cs:Array Value):KF (w.alloc (.cells cs 3)) w.heap.size cs.size:=⟨cs,Tn w _,rfl⟩
theorem OW(vs:List Value)(Z:Array Value){j:Nat}(h:j<vs.length):(vs.toArray++Z)[j]?=vs[j]?:=by
 rw[Array.getElem?_append_left (by simpa using h)];simp
theorem Ov(l:List Int){j:Nat}(h:j<l.length):(l.map (Value.int .i64))[j]?=some (.int .i64 (l.getD j 0)):=by simp[List.getD,h]
theorem GE{w:World}{g c j:Nat}(h:KF w g c)(hj:j<c):(w.cell? ⟨g,j,none⟩).isSome=true:=by
 obtain⟨cur,h1,h2⟩:=h;rw[Jd _ _ _ cur 3 (0,0) h1,Array.getElem?_eq_getElem (by omega)];rfl
theorem FD{w:World}{g c:Nat}(h:KF w g c)(j:Nat):w.frozen? ⟨g,j,none⟩=false:=by
 obtain⟨cur,h1,h2⟩:=h;simp[World.frozen?,h1]
theorem Ul{w:World}{g c o:Nat}{vs:List Value}(hB:KF w g c)(ho:o+vs.length<=c)(j:Nat) :
  (w.setCells g o vs).cell? ⟨g,j,none⟩=if o<=j/\j<o+vs.length then vs[j-o]? else w.cell? ⟨g,j,none⟩:=by
 split
 ·rename_i h
  obtain⟨i,rfl⟩:∃ i,j=o+i:=⟨j-o,by omega⟩;rw[World.cell?_setCells_in g vs o w (λi hi=>GE hB (by omega)) i (by omega),Nat.add_sub_cancel_left,M4 (by omega)]
 ·rename_i h
  exact World.cell?_setCells_out g vs o w _ (λ_ _=>by show j<o\/o+vs.length<=j;omega)
def Vf(l:List Int)(i:Int)(v:List Int):Option (List Int×List Int×List Int):=
 Bh (0<=i/\i<=l.length/\0<v.length/\l.length+v.length<=room) (some (l.take i.toNat++v++l.drop i.toNat,l.take i.toNat++v++l.drop i.toNat,v))
theorem bH{l:List Int}{j:Nat}{u:Value}(h:(l.map (Value.int .i64))[j]?=some u):j<l.length/\u = .int .i64 (l.getD j 0):=by
 rw[CH]at h;obtain⟨x,hx,rfl⟩:=zzL72.1 h;obtain⟨h1,h2⟩:=List.getElem?_eq_some_iff.1 hx;exact⟨h1,by simp[List.getD,hx]⟩
theorem UH(l:List Int):∀ v∈l.map (Value.int .i64),v.oneCell'=true:=by
 intro v hv;obtain⟨x,_,rfl⟩:=zzL14.1 hv
 rfl
section
variable {I:Nat->Nat->Prop} {own:Nat->Option Own} {θ:Nat->Option (Nat×Nat)} {w w':World}
theorem rowI_at(hrel:Gl I own θ w){nm n:Nat}{f:Nat->List AV}{v:Value}{l:List Int}(hl:l.length=n)(ho:own nm=some (.arr 1 3 n f))(hf:∀ k,k<n->f k=[.int .i64 (l.getD k 0)])(h:Rep I own θ w v (.vsl nm n)) :
  (θ nm=none/\l=[]/\∃ a,v = .slice a 0 0)\/∃ g c,θ nm=some (g,c)/\v = .slice (some ⟨g,0,none⟩) n c/\n<=c/\c<=maxLen/\KF w g c/\(∀ j,j<n->w.cell? ⟨g,j,none⟩=some (.int .i64 (l.getD j 0)))/\∀ j,¬ I g j:=by
 obtain⟨sz,e2,m,f2,ad,cap,rfl,ho2,hm,hcap,hmax,hn,hv⟩:=h.vsl_inv;rw[ho]at ho2;simp only[Ah,Own.arr.injEq]at ho2;obtain⟨rfl,rfl,rfl,rfl⟩:=ho2;have hv:=hv rfl;obtain⟨k1,k2⟩:=hrel.arr nm _ _ _ _ ho
 cases hθ:θ nm with
 | none=>
  rw[hθ]at hv;simp only at hv;have:=k1 hθ;subst this;exact .inl ⟨rfl,zzL91.1 hl,ad,by rw[hv]⟩
 | some gc=>
  obtain⟨g,c⟩:=gc;rw[hθ]at hv;simp only at hv;obtain⟨rfl,rfl⟩:=hv;obtain⟨cur,q1,q2,q3,q4,q5,q6,q7⟩:=k2 g cap hθ;rw[Ps]at q4;refine .inr ⟨g,cap,rfl,rfl,q2,q3,⟨cur,q1,q4⟩,λj hj=>?_,q7⟩;obtain⟨_,q⟩:=q6 j 0 hj (by omega);rw[hf j hj,Ps,Jc]at q;have q:=Rep.int_inv q;rw[Jd _ _ _ cur 3 (0,0) q1,<- q];simp only[M3];rw[Array.getElem?_eq_getElem (by omega)]
  rfl
theorem XQ(hrel:Gl I own θ w)(hval:∀ b o,I b o->∃ u,w.cell? ⟨b,o,none⟩=some u){nm n:Nat}{f:Nat->List AV}(ho:own nm=some (.arr 1 3 n f)){r:List Int}(hn:n<r.length){g c:Nat}(hc:r.length<=c)(hm:c<=maxLen)
  (hlk:Lk w w' g) (hblk:KF w' g c) (hcell:∀ j,j<r.length->w'.cell? ⟨g,j,none⟩=some (.int .i64 (r.getD j 0))) (hI:∀ j,¬ I g j) (hg:w.heap.size<=g\/∃ c',θ nm=some (g,c')) :
  ∃ v θ',Value.slice (some ⟨g,0,none⟩) r.length c=v/\Chg own θ I w (As own nm (.arr 1 3 r.length (λi=>[.int .i64 (r.getD i 0)]))) θ' I w'/\Rep I (As own nm (.arr 1 3 r.length (λi=>[.int .i64 (r.getD i 0)]))) θ' w' v (.vsl nm r.length):=by
 have hoth:∀ b o,I b o->w'.cell? ⟨b,o,none⟩=w.cell? ⟨b,o,none⟩:=λb o hi=>by
  obtain⟨u,hu⟩:=hval b o hi;exact Xg (a:=⟨b,o,none⟩) (hlk.other b (J2 hu) (λe=>hI o (e▸hi)))
 have hk:=Ic (nm:=nm) (s:=1) (e:=3) (m':=r.length) (f':=λi=>[.int .i64 (r.getD i 0)]) (t':=some (g,c)) (w':=w') hrel hval hoth (.inr ⟨n,f,ho,Nat.le_of_lt hn,λh=>by omega⟩)
  (λb hb hne=>hlk.other b hb (λe=>by
   subst e;rcases hg with hg|⟨c',hg⟩
   ·omega
   ·exact hne c' (by rw[ho];intro hh;cases hh) hg)) hlk.os hlk.tape hlk.output hlk.size (λhh=>by cases hh)
  (λg' c' hh=>by
   obtain⟨rfl,rfl⟩:=Prod.mk.inj (OI hh);obtain⟨cur,h1,h2⟩:=hblk;refine⟨cur,h1,hc,hm,by rw[h2,Ps],λ_ _=>rfl,λi j hi hj=>?_,hI⟩
   obtain rfl:j=0:=by omega
   have:=hcell i hi;rw[Jd _ _ _ cur 3 (0,0) h1]at this;rw[Ps,Jc,M3,this]
   exact⟨rfl,λ_=>.val _ _ (.int _ _)⟩)
  (λg' c' hh=>by
   obtain⟨rfl,rfl⟩:=Prod.mk.inj (OI hh);rcases hg with hg|⟨c',hg⟩
   ·exact .inl hg
   ·exact .inr ⟨(by rw[ho];intro hh;cases hh),c',hg⟩) hlk.drawn
 exact⟨_,_,rfl,hk,.vsl nm 1 3 r.length (λi=>[.int .i64 (r.getD i 0)]) (some ⟨g,0,none⟩) r.length c (by simp only[As,Iz]) (zzL5 _) hc hm (λhh=>by cases hh) (λ_=>by simp[thUp])⟩
end
set_option maxHeartbeats 1000000 in
theorem JG(l:List Int)(i:Int)(v:List Int)(r:List Int×List Int×List Int)(h:Vf l i v=some r)(f:Nat->List AV)(hf:∀ k,k<v.length->f k=[.int .i64 (v.getD k 0)]) :
  Spec Tryz.prog 193 [.vsl 34000 l.length,.int .i64 i,.vsl 34002 v.length] [(34000,.arr 1 3 l.length (λi=>[.int .i64 (l.getD i 0)])),(34002,.arr 1 3 v.length f)] (.vsl 34000 r.2.1.length)
   [(34000,.arr 1 3 r.2.1.length (λi=>[.int .i64 (r.2.1.getD i 0)])),(34002,.arr 1 3 r.2.2.length (λi=>[.int .i64 (r.2.2.getD i 0)]))]:=by
 obtain⟨⟨hi0,hin,hm,hroom⟩,h⟩:=Mc h;obtain rfl:=OI h;unfold room at hroom;obtain⟨k,rfl⟩:=Int.eq_ofNat_of_zero_le hi0
 have hkn:k<=l.length:=by omega
 simp only[Do];refine⟨enters_of Tryz.func193 (by kernel_rfl) rfl,λw I θ zs hargs hrel hval _=>?_⟩;obtain⟨zs⟩:=zs
 cases hargs with|cons h1 t=>cases t with|cons h2 t=>cases t with|cons h3 t=>cases t with|nil=>
 obtain rfl:=Rep.int_inv h2;rcases rowI_at hrel (l:=v) rfl rfl hf h3 with⟨_,h,_⟩|⟨vg,vc,hvθ,rfl,hvc,_,⟨vcur,hvh,hvs'⟩,hvcell,hvI⟩
 ·rw[h]at hm;cases hm
 have hvs:∀(W:World),(∀ o,W.cell? ⟨vg,o,none⟩=w.cell? ⟨vg,o,none⟩)->∀ j u,(v.map (Value.int .i64))[j]?=some u->W.cell? ⟨vg,0+j,none⟩=some u:=λW hW j u hj=>by
  obtain⟨h1,rfl⟩:=bH hj;rw[E2,hW,hvcell j h1]
 generalize hr:l.take k++v++l.drop k=r
 have hrl:r.length=l.length+v.length:=by rw[<- hr];simp;omega
 have hr1:∀ j,j<k->r.getD j 0=l.getD j 0:=λj hj=>by rw[<- hr];simp only[List.getD];rw[EB,Tm (by simp;omega),List.getElem?_take_of_lt hj]
 have hr2:∀ j,j<v.length->r.getD (k+j) 0=v.getD j 0:=λj hj=>by
  rw[<- hr];simp only[List.getD];rw[EB,Vk (by simp;omega),Tm (by simp;omega)];congr 2;simp;omega
 have hr3:∀ j,k+v.length<=j->r.getD j 0=l.getD (j-v.length) 0:=λj hj=>by
  rw[<- hr];simp only[List.getD];rw[Vk (by simp;omega),Zz];congr 2;simp;omega
 obtain⟨own1,hown1⟩:∃ o,o=As (Ae [(34000,Own.arr 1 3 l.length (λi=>[.int .i64 (l.getD i 0)])),(34002,Own.arr 1 3 v.length f)]) 34002 (.arr 1 3 v.length (λi=>[.int .i64 (v.getD i 0)])):=⟨_,rfl⟩
 have hk1:Chg (Ae [(34000,Own.arr 1 3 l.length (λi=>[.int .i64 (l.getD i 0)])),(34002,Own.arr 1 3 v.length f)]) θ I w own1 θ I w:=by
  have:=Ic (nm:=34002) (s:=1) (e:=3) (m':=v.length) (f':=λi=>[.int .i64 (v.getD i 0)]) (t':=some (vg,vc)) (w':=w) hrel hval (λ_ _ _=>rfl) (.inr ⟨v.length,f,rfl,zzL5 _,λ_=>hvθ.symm⟩)
   (λ_ _ _=>rfl) rfl rfl rfl (zzL5 _) (λhh=>by cases hh)
   (λg' c' hh=>by
    obtain⟨rfl,rfl⟩:=Prod.mk.inj (OI hh);refine⟨vcur,hvh,hvc,‹_›,by rw[hvs',Ps],λ_ _=>rfl,λi j hi hj=>?_,hvI⟩
    obtain rfl:j=0:=by omega
    have:=hvcell i hi;rw[Jd _ _ _ vcur 3 (0,0) hvh]at this;rw[Ps,Jc,M3,this]
    exact⟨rfl,λ_=>.val _ _ (.int _ _)⟩)
   (λg' c' hh=>by
    obtain⟨rfl,rfl⟩:=Prod.mk.inj (OI hh)
    exact .inr ⟨(λhh=>by cases hh),vc,hvθ⟩)
  rw[Ry hvθ]at this;rw[hown1];exact this
 have ho0:own1 34000=some (.arr 1 3 l.length (λi=>[.int .i64 (l.getD i 0)])):=by rw[hown1];rfl
 have ho2:own1 34002≠none:=by rw[hown1];intro hh;cases hh
 have hH:∀ x,As own1 34000 (.arr 1 3 r.length x)=Ae [(34000,Own.arr 1 3 r.length x),(34002,Own.arr 1 3 v.length (λi=>[.int .i64 (v.getD i 0)]))]:=λx=>by
  rw[hown1]
  funext nm
  simp only[As,Ae]
  by_cases h1:nm=34000
  ·subst h1;rfl
  ·by_cases h2:nm=34002
   ·subst h2;rfl
   ·have e1:Nat.beq 34000 nm=false:=by cases e:Nat.beq 34000 nm;rfl;exact absurd (Ce e).symm h1
    have e2:Nat.beq 34002 nm=false:=by cases e:Nat.beq 34002 nm;rfl;exact absurd (Ce e).symm h2
    simp[h1,h2,e1,e2]
 have fin:∀(g c:Nat) (w':World) (e:Ending),r.length<=c->c<=maxLen->Lk w w' g->KF w' g c->(∀ j,j<r.length->w'.cell? ⟨g,j,none⟩=some (.int .i64 (r.getD j 0)))->(∀ j,¬ I g j)->(w.heap.size<=g\/∃ c',θ 34000=some (g,c'))->e = .returned (.slice (some ⟨g,0,none⟩) (l.length+v.length) c)->
   ∃ v' I' θ',e = .returned v'/\Chg (Ae [(34000,Own.arr 1 3 l.length (λi=>[.int .i64 (l.getD i 0)])),(34002,Own.arr 1 3 v.length f)]) θ I w (Ae [(34000,Own.arr 1 3 r.length (λi=>[.int .i64 (r.getD i 0)])),(34002,Own.arr 1 3 v.length (λi=>[.int .i64 (v.getD i 0)]))]) θ' I' w' /\
    Rep I' (Ae [(34000,Own.arr 1 3 r.length (λi=>[.int .i64 (r.getD i 0)])),(34002,Own.arr 1 3 v.length (λi=>[.int .i64 (v.getD i 0)]))]) θ' w' v' (.vsl 34000 r.length):=by
  intro g c w' e hc hmx hlk hblk hcell hI hg he;obtain⟨v',θ',e1,e2,e3⟩:=XQ (r:=r) hk1.rel hk1.valid ho0 (by omega) hc hmx hlk hblk hcell hI hg;rw[hH]at e2 e3;exact⟨v',I,θ',by rw[he,<- e1,hrl],hk1.trans e2,e3⟩
 have hNI:∀ j,¬ I w.heap.size j:=λj hj=>by
  obtain⟨u,hu⟩:=hval _ _ hj;have:=J2 hu;simp at this
 have h1v:=UH v;have hvl:(v.map (Value.int .i64)).length=v.length:=B9 ..
 have hbig:(l.length+v.length)*8<=140737488355328:=by omega
 rcases rowI_at hk1.rel rfl ho0 (λ_ _=>rfl) (h1.mono (λ_ _ h=>h) (λ_ _ _=>rfl) hk1.le) with⟨_,rfl,a,rfl⟩|⟨g,c,hθ,rfl,hc,hcm,hB,hcell,hI⟩
 ·
  obtain rfl:k=0:=by simp at hkn;omega
  refine(Any2.slices_Insert_int_end_grow Za a 0 0 vg 0 v.length vc [] (v.map (Value.int .i64)) w hm (zzL5 _) (by omega) (by simpa using hbig) rfl hvl (λ_=>rfl) (λ_ _ _ _ h=>by simp at h) (hvs w λ_=>rfl) h1v).mono λe w' ⟨he,hw⟩=>?_;subst hw;have hG:=grownCap_ge w (0+v.length) 0 (insRen.t 3);have hGm:grownCap w (0+v.length) 0 (insRen.t 3)<=maxLen:=grownCap_le_maxLen _ _ _ _ (by unfold maxLen;omega);simp only[List.length_nil]at he ⊢ hrl
  generalize grownCap w (0+v.length) 0 (insRen.t 3)=G at hG hGm he ⊢
  refine fin w.heap.size G _ e (by omega) hGm ((Wa w _).trans (HI (zzL5 _))) ?_ (λj hj=>?_) hNI (.inl (zzL5 _)) he
  ·have:=AO (w:=w.drew) (([]++v.map (Value.int .i64)).toArray++Builtin.zeroCells (Value.int .i64 0).cells (G-(0+v.length)))
   have e:(([]++v.map (Value.int .i64)).toArray++Builtin.zeroCells (Value.int .i64 0).cells (G-(0+v.length))).size=G:=by
    simp[Builtin.zeroCells,Value.cells];omega
   rw[e]at this;exact this
  ·have e:=World.cell?_alloc_at (w:=w.drew) (([]++v.map (Value.int .i64)).toArray++Builtin.zeroCells (Value.int .i64 0).cells (G-(0+v.length))) (insRen.t 3) w.heap.size j rfl;rw[e,Vp,OW _ _ (by rw[hvl];omega),Ov _ (by omega)];have:=hr2 j (by omega);rw[E2]at this;rw[this]
 ·have hcl:(l.map (Value.int .i64)).length=l.length:=B9 ..;have h1c:=UH l
  have hc63:c<=9223372036854775807:=by unfold maxLen at hcm;exact hcm
  have hcs:∀ j u,(l.map (Value.int .i64))[j]?=some u->w.cell? ⟨g,0+j,none⟩=some u:=λj u hj=>by
   obtain⟨h1,rfl⟩:=bH hj;rw[E2,hcell j h1]
  have hgv:vg≠g:=λe=>by
   subst e;have:=hrel.inj 34000 34002 vg c vc (by intro hh;cases hh) (by intro hh;cases hh) hθ hvθ
   cases this
  by_cases hroomc:l.length+v.length<=c
  ·by_cases hke:k=l.length
   ·subst hke;refine(Any2.slices_Insert_int_end_room Za g 0 l.length c vg 0 v.length vc (v.map (Value.int .i64)) w hm hroomc hc63 hvl (λj hj=>GE hB (by omega)) (λj hj=>FD hB _) (hvs w λ_=>rfl) h1v).mono λe w' ⟨he,hw⟩=>?_;subst hw;have hlk:=Rf g (v.map (Value.int .i64)) (0+l.length) w;refine fin g c _ e (by omega) hcm hlk (hlk.blk c hB) (λj hj=>?_) hI (.inr ⟨c,hθ⟩) he;rw[Ul hB (by rw[hvl];omega),hvl]
    split
    ·rw[Ov _ (by omega),<- hr2 _ (by omega)];congr 3;omega
    ·rw[hcell j (by omega),hr1 j (by omega)]
   ·refine(Any2.slices_Insert_int_shift Za g 0 l.length c k vg 0 v.length vc (l.map (Value.int .i64)) (v.map (Value.int .i64)) w (by omega) hm hroomc hc63 hgv hcl hvl hcs (λj hj=>GE hB (by omega)) (λj hj=>FD hB _) (hvs w λ_=>rfl) h1c h1v
     3 3 vc c ?_ ?_ (by omega) ?_ ?_).mono λe w' ⟨he,hw⟩=>?_
    ·simp[World.shape?,hvh,hvs']
    ·obtain⟨cur,q1,q2⟩:=hB;simp[World.shape?,q1,q2]
    ·exact FD ⟨vcur,hvh,hvs'⟩ _
    ·exact FD ⟨vcur,hvh,hvs'⟩ _
    subst hw;have hl1:=(Wa w g).trans (Rf g ((l.map (Value.int .i64)).drop k) (0+(k+v.length)) w.drew);have hB0:=(Wa w g).blk c hB;have hB1:=hl1.blk c hB;have hl2:=hl1.trans (Rf g (v.map (Value.int .i64)) (0+k) _);refine fin g c _ e (by omega) hcm hl2 (hl2.blk c hB) (λj hj=>?_) hI (.inr ⟨c,hθ⟩) he;rw[Ul hB1 (by rw[hvl];omega),hvl,Ul hB0 (by rw[Vn,hcl];omega),Vn,hcl]
    split
    ·rw[Ov _ (by omega),<- hr2 _ (by omega)];congr 3;omega
    ·split
     ·rw[Zz,Ov _ (by omega),hr3 j (by omega)];congr 3;omega
     ·show w.cell? _=_
      rw[hcell j (by omega),hr1 j (by omega)]
  ·have hG:=grownCap_ge w (l.length+v.length) c (insRen.t 3);have hGm:grownCap w (l.length+v.length) c (insRen.t 3)<=maxLen:=grownCap_le_maxLen _ _ _ _ (by unfold maxLen;omega)
   by_cases hke:k=l.length
   ·subst hke
    refine(Any2.slices_Insert_int_end_grow Za (some ⟨g,0,none⟩) l.length c vg 0 v.length vc (l.map (Value.int .i64)) (v.map (Value.int .i64)) w hm hc (by omega) hbig hcl hvl (λh=>by cases h) (λa ha j u hj=>by
     obtain rfl:=OI ha
     rw[Ly];exact hcs j u hj) (hvs w λ_=>rfl) h1v).mono λe w' ⟨he,hw⟩=>?_
    subst hw
    generalize grownCap w (l.length+v.length) c (insRen.t 3)=G at hG hGm he ⊢
    refine fin w.heap.size G _ e (by omega) hGm ((Wa w _).trans (HI (zzL5 _))) ?_ (λj hj=>?_) hNI (.inl (zzL5 _)) he
    ·have:=AO (w:=w.drew) ((l.map (Value.int .i64)++v.map (Value.int .i64)).toArray++Builtin.zeroCells (Value.int .i64 0).cells (G-(l.length+v.length)))
     have e:((l.map (Value.int .i64)++v.map (Value.int .i64)).toArray++Builtin.zeroCells (Value.int .i64 0).cells (G-(l.length+v.length))).size=G:=by
      simp[Builtin.zeroCells,Value.cells];omega
     rw[e]at this;exact this
    ·have e:=World.cell?_alloc_at (w:=w.drew) ((l.map (Value.int .i64)++v.map (Value.int .i64)).toArray++Builtin.zeroCells (Value.int .i64 0).cells (G-(l.length+v.length))) (insRen.t 3) w.heap.size j rfl;rw[e,OW _ _ (by rw[Fb,hcl,hvl];omega)]
     by_cases hj1:j<l.length
     ·rw[Tm (by omega),Ov _ hj1,hr1 j hj1]
     ·rw[Vk (by omega),hcl,Ov _ (by omega),<- hr2 _ (by omega)];congr 3;omega
   ·refine(Any2.slices_Insert_int_grow Za g 0 l.length c k vg 0 v.length vc (l.map (Value.int .i64)) (v.map (Value.int .i64)) w (by omega) hm hc (by omega) hbig hcl hvl hcs (hvs w λ_=>rfl) h1c h1v).mono λe w' ⟨he,hw⟩=>?_;subst hw
    generalize grownCap w (l.length+v.length) c (insRen.t 3)=G at hG hGm he ⊢
    generalize hA:((l.map (Value.int .i64)).take k).toArray++Builtin.zeroCells (Value.int .i64 0).cells (l.length+v.length-k)++Builtin.zeroCells (Value.int .i64 0).cells (G-(l.length+v.length))=A
    have hAs:A.size=G:=by rw[<- hA];simp[Builtin.zeroCells,Value.cells];omega
    have b0:KF (w.alloc (.cells A 3)) w.heap.size G:=by have:=AO (w:=w) A;rwa[hAs]at this
    have k0:Lk w (w.alloc (.cells A 3)) w.heap.size:=HI (zzL5 _);have k1:=(Wa (w.alloc (.cells A 3)) w.heap.size);have b1:=k1.blk G b0;have k2:=Rf w.heap.size (v.map (Value.int .i64)) k (w.alloc (.cells A 3)).drew;have b2:=k2.blk G b1;have k3:=Wa ((w.alloc (.cells A 3)).drew.setCells w.heap.size k (v.map (Value.int .i64))) w.heap.size;have b3:=k3.blk G b2;have k4:=Rf w.heap.size ((l.map (Value.int .i64)).drop k) (k+v.length) ((w.alloc (.cells A 3)).drew.setCells w.heap.size k (v.map (Value.int .i64))).drew;refine fin w.heap.size G _ e (by omega) hGm ((((k0.trans k1).trans k2).trans k3).trans k4) (k4.blk G b3) (λj hj=>?_) hNI (.inl (zzL5 _)) he
    show(((w.alloc (Obj.cells A 3)).drew.setCells w.heap.size k (v.map (Value.int .i64))).drew.setCells w.heap.size (k+v.length) ((l.map (Value.int .i64)).drop k)).cell? ⟨w.heap.size,j,none⟩=_
    rw[Ul b3 (by rw[Vn,hcl];omega),Vn,hcl]
    split
    ·rw[Zz,Ov _ (by omega),hr3 j (by omega)];congr 3;omega
    ·show((w.alloc (Obj.cells A 3)).drew.setCells w.heap.size k (v.map (Value.int .i64))).cell? ⟨w.heap.size,j,none⟩=_
     rw[Ul b1 (by rw[hvl];omega),hvl]
     split
     ·rw[Ov _ (by omega),<- hr2 _ (by omega)];congr 3;omega
     ·have e:=World.cell?_alloc_at (w:=w) A 3 w.heap.size j rfl
      show(w.alloc (.cells A 3)).cell? _=_
      rw[e,<- hA,Array.append_assoc,OW _ _ (by rw[R4,hcl];omega),List.getElem?_take_of_lt (by omega),Ov _ (by omega),hr1 j (by omega)]
def TC:Go.Shelf.Ren:=⟨fun|189=>190|125=>233|257=>232|128=>273|129=>274|294=>265|295=>266|296=>267|297=>268|298=>269|299=>270|216=>234|300=>271|301=>272|328=>286|329=>287|330=>288|331=>289|332=>290|215=>275|343=>295|n=>n,fun|28=>22|3=>3|46=>239|0=>0|51=>256|53=>44|4=>4|183=>269|182=>268|131=>186|5=>5|9=>9|218=>277|222=>281|228=>285|229=>149|n=>n,fun|n=>n⟩
theorem bZ:Go.Proofs.Lays.n189 Tryz.prog TC:={
 mixed:=by kernel_rfl
 f125:=Tryz.func233.trans (Bi some (by kernel_rfl))
 f128:=Tryz.func273.trans (Bi some (by kernel_rfl))
 f129:=Tryz.func274.trans (Bi some (by kernel_rfl))
 f189:=Tryz.func190.trans (Bi some (by kernel_rfl))
 f215:=Tryz.func275.trans (Bi some (by kernel_rfl))
 f216:=Tryz.func234.trans (Bi some (by kernel_rfl))
 f257:=Tryz.func232.trans (Bi some (by kernel_rfl))
 f294:=Tryz.func265.trans (Bi some (by kernel_rfl))
 f295:=Tryz.func266.trans (Bi some (by kernel_rfl))
 f296:=Tryz.func267.trans (Bi some (by kernel_rfl))
 f297:=Tryz.func268.trans (Bi some (by kernel_rfl))
 f298:=Tryz.func269.trans (Bi some (by kernel_rfl))
 f299:=Tryz.func270.trans (Bi some (by kernel_rfl))
 f300:=Tryz.func271.trans (Bi some (by kernel_rfl))
 f301:=Tryz.func272.trans (Bi some (by kernel_rfl))
 f328:=Tryz.func286.trans (Bi some (by kernel_rfl))
 f329:=Tryz.func287.trans (Bi some (by kernel_rfl))
 f330:=Tryz.func288.trans (Bi some (by kernel_rfl))
 f331:=Tryz.func289.trans (Bi some (by kernel_rfl))
 f332:=Tryz.func290.trans (Bi some (by kernel_rfl))
 f343:=Tryz.func295.trans (Bi some (by kernel_rfl))
 t0:=Tryz.underlying0
 a0:=Tryz.isAgg0
 z0:=Tryz.sizeOf0
 v0:=Tryz.zeroValue0
 t3:=Tryz.underlying3
 a3:=Tryz.isAgg3
 z3:=Tryz.sizeOf3
 v3:=Tryz.zeroValue3
 t4:=Tryz.underlying4
 a4:=Tryz.isAgg4
 z4:=Tryz.sizeOf4
 v4:=Tryz.zeroValue4
 t5:=Tryz.underlying5
 a5:=Tryz.isAgg5
 z5:=Tryz.sizeOf5
 v5:=Tryz.zeroValue5
 t9:=Tryz.underlying9
 a9:=Tryz.isAgg9
 z9:=Tryz.sizeOf9
 v9:=Tryz.zeroValue9
 t28:=Tryz.underlying22
 a28:=Tryz.isAgg22
 z28:=Tryz.sizeOf22
 v28:=Tryz.zeroValue22
 t46:=Tryz.underlying239
 a46:=Tryz.isAgg239
 z46:=Tryz.sizeOf239
 v46:=Tryz.zeroValue239
 t51:=Tryz.underlying256
 a51:=Tryz.isAgg256
 z51:=Tryz.sizeOf256
 v51:=Tryz.zeroValue256
 t53:=Tryz.underlying44
 a53:=Tryz.isAgg44
 z53:=Tryz.sizeOf44
 v53:=Tryz.zeroValue44
 t131:=Tryz.underlying186
 a131:=Tryz.isAgg186
 z131:=Tryz.sizeOf186
 v131:=Tryz.zeroValue186
 t182:=Tryz.underlying268
 a182:=Tryz.isAgg268
 z182:=Tryz.sizeOf268
 v182:=Tryz.zeroValue268
 t183:=Tryz.underlying269
 a183:=Tryz.isAgg269
 z183:=Tryz.sizeOf269
 v183:=Tryz.zeroValue269
 t218:=Tryz.underlying277
 a218:=Tryz.isAgg277
 z218:=Tryz.sizeOf277
 v218:=Tryz.zeroValue277
 t222:=Tryz.underlying281
 a222:=Tryz.isAgg281
 z222:=Tryz.sizeOf281
 v222:=Tryz.zeroValue281
 t228:=Tryz.underlying285
 a228:=Tryz.isAgg285
 z228:=Tryz.sizeOf285
 v228:=Tryz.zeroValue285
 t229:=Tryz.underlying149
 a229:=Tryz.isAgg149
 z229:=Tryz.sizeOf149
 v229:=Tryz.zeroValue149 }
def KS:Go.Shelf.Ren:=⟨fun|15=>189|n=>n,fun|22=>22|3=>3|4=>4|n=>n,fun|n=>n⟩
theorem BB:Go.Proofs.Lays2.n15 Tryz.prog KS:={
 mixed:=by kernel_rfl
 f15:=Tryz.func189.trans (Bi some (by kernel_rfl))
 t3:=Tryz.underlying3
 a3:=Tryz.isAgg3
 z3:=Tryz.sizeOf3
 v3:=Tryz.zeroValue3
 t4:=Tryz.underlying4
 a4:=Tryz.isAgg4
 z4:=Tryz.sizeOf4
 v4:=Tryz.zeroValue4
 t22:=Tryz.underlying22
 a22:=Tryz.isAgg22
 z22:=Tryz.sizeOf22
 v22:=Tryz.zeroValue22
 i3:=by kernel_rfl }
def KT:Go.Shelf.Ren:=⟨fun|20=>191|n=>n,fun|22=>22|3=>3|4=>4|0=>0|n=>n,fun|n=>n⟩
theorem MN:Go.Proofs.Lays2.n20 Tryz.prog KT:={
 mixed:=by kernel_rfl
 f20:=Tryz.func191.trans (Bi some (by kernel_rfl))
 t0:=Tryz.underlying0
 a0:=Tryz.isAgg0
 z0:=Tryz.sizeOf0
 v0:=Tryz.zeroValue0
 t3:=Tryz.underlying3
 a3:=Tryz.isAgg3
 z3:=Tryz.sizeOf3
 v3:=Tryz.zeroValue3
 t4:=Tryz.underlying4
 a4:=Tryz.isAgg4
 z4:=Tryz.sizeOf4
 v4:=Tryz.zeroValue4
 t22:=Tryz.underlying22
 a22:=Tryz.isAgg22
 z22:=Tryz.sizeOf22
 v22:=Tryz.zeroValue22
 i3:=by kernel_rfl }
open Go.Sort
section
variable {I:Nat->Nat->Prop} {θ:Nat->Option (Nat×Nat)} {w w':World}
theorem YO(I:Nat->Nat->Prop)(θ:Nat->Option (Nat×Nat))(w:World):Gl I (Ae []) θ w:=
 ⟨(λ_ _ _ h=>by cases h),(λ_ _ _ _ h=>by cases h),(λ_ _ _ _ _ h=>(h rfl).elim),(λ_ _ _ _ _ h=>by cases h),(λ_ _ h=>by cases h),(λ_ _ _ h=>by cases h)⟩
theorem io{own:Nat->Option Own}{zs:Array Value}{x:AV}(h:RepL I own θ w zs.toList [x]):∃ v,zs = #[v]/\Rep I own θ w v x:=by
 obtain⟨l⟩:=zs
 cases h with
 | cons h1 h2=>cases h2;exact⟨_,rfl,h1⟩
theorem Wv(hb:Below w.heap.size w w')(hval:∀ b o,I b o->∃ u,w.cell? ⟨b,o,none⟩=some u){N:Nat->Nat->Prop}(hN:∀ b o,N b o->w.heap.size<=b/\∃ u,w'.cell? ⟨b,o,none⟩=some u) :
  Chg (Ae []) θ I w (Ae []) θ (λb o=>I b o\/N b o) w':=
 have hcell:∀ b o,I b o->w'.cell? ⟨b,o,none⟩=w.cell? ⟨b,o,none⟩:=λb o hi=>by
  obtain⟨u,hu⟩:=hval b o hi;exact Xg (a:=⟨b,o,none⟩) (hb.block b (J2 hu))
 {imm:=λ_ _ h=>.inl h,cell:=hcell,le:=λ_ _ h=>(by cases h),rel:=YO _ _ _,
  valid:=λb o hi=>by
   rcases hi with hi|hi
   ·obtain⟨u,hu⟩:=hval b o hi;exact⟨u,(hcell b o hi).trans hu⟩
   ·exact(hN b o hi).2,
  os:=hb.os,tape:=hb.tape,output:=hb.output,drawn:=λh=>h.elim,grow:=hb.size,frame:=λb hlt _=>hb.block b hlt,new:=λ_ _ _ h=>(h rfl).elim,
  immNew:=λb o hi=>by
   rcases hi with hi|hi
   ·exact .inl hi
   ·exact .inr (.inl (hN b o hi).1) }
end
theorem Ys{w W:World}{g n:Nat}{os:Array Obj}{d:Array Int}(hb:Below w.heap.size w W)(hg:w.heap.size<=g):Below w.heap.size w (grow (putRow (Value.int .i64) (Sort.ahead W n) g 0 d) os):=by
 have k:=grownBy_sortedI (w:=W) (g:=g) (n:=n) (os:=os) d;refine hb.trans ⟨k.os,k.tape,k.output,k.size,λb hlt=>k.block b (Nat.lt_of_lt_of_le hlt hb.size) (λe=>?_)⟩;have:=OI e;omega
def OQ(w W:World)(g cap n:Nat)(zs:List Int):Prop:=
 Below w.heap.size w W/\w.heap.size<=g/\∃ cur,W.heap[g]?=some (.cells cur 3 (0,0))/\n<=cap/\cap<=maxLen/\cur.size=cap/\cur.toList.take zs.length=zs.map (Value.int .i64)/\zs.length=n
theorem bq{w W:World}{v:Value}{n:Nat}{zs:List Int}(h:W.ownsRow w.heap.size 3 1 v n (zs.map (Value.int .i64)))(hne:v≠.slice none 0 0)(hb:Below w.heap.size w W):∃ g cap,v = .slice (some ⟨g,0,none⟩) n cap/\OQ w W g cap n zs:=by
 have hl:zs.length=n:=by have:=h.1;simpa using this
 rcases h.2 with⟨rfl,_⟩|⟨g,cap,cur,rfl,hg,hcur,hcap,hmax,hsz,ht⟩
 ·exact(hne rfl).elim
 ·rw[Ps]at hsz ht;exact⟨g,cap,rfl,hb,hg,cur,hcur,hcap,hmax,hsz,by rw[hl];exact ht,hl⟩
theorem fx(ad:Addr)(c:Nat)(w:World):Calls Tryz.prog 189 #[.slice (some ad) 0 c] w λe W=>∃ g cap,e = .returned (.slice (some ⟨g,0,none⟩) 0 cap)/\OQ w W g cap 0 []:=
 (Any.slices_Clone_int_zero BB ad c w).mono λe W ⟨v,he,hown,hne,hb⟩=>by
  obtain⟨g,cap,rfl,h⟩:=bq (zs:=[]) hown hne hb;exact⟨g,cap,he,h⟩
theorem kw(b off n c:Nat)(zs:List Int)(w:World)(hz:zs.length=n)(hbig:n<=17592186044416)(hc:∀ j,j<n->w.cell? ⟨b,off+j,none⟩=some (.int .i64 (zs.getD j 0))) :
  Calls Tryz.prog 189 #[.slice (some ⟨b,off,none⟩) n c] w λe W=>∃ g cap,e = .returned (.slice (some ⟨g,0,none⟩) n cap)/\OQ w W g cap n zs:=
 (Any.slices_Clone_int BB b off n c zs w (by omega) (by omega) (λj hj=>hc j (by omega))).mono λe W ⟨v,he,hown,hne,hb⟩=>by
  rw[show zs.take n=zs by rw[<- hz];exact Vo ..]at hown;obtain⟨g,cap,rfl,h⟩:=bq hown hne hb;exact⟨g,cap,he,h⟩
theorem oD{w W:World}{g cap n:Nat}{zs:List Int}(h:OQ w W g cap n zs)(hbig:n<=17592186044416):Calls Tryz.prog 190 #[.slice (some ⟨g,0,none⟩) n cap] W λe W2=>e = .returned (.tuple #[])/\OQ w W2 g cap n (zs.mergeSort λx y=>decide (x<=y)):=by
 obtain⟨hb,hg,cur,hcur,hcap,hmax,hsz,ht,rfl⟩:=h;refine(Any.slices_Sort_int bZ g 0 cap zs W (holds_of_blockI hcur ht) (Y7 hcur) (by omega)).mono λe W2 ⟨he,q,os,hW⟩=>⟨he,?_⟩;subst hW;have hl:(zs.mergeSort λx y=>decide (x<=y)).length=zs.length:=List.length_mergeSort ..;have b2:=Ys (n:=q) (os:=os) (d:=(zs.mergeSort λx y=>decide (x<=y)).toArray) hb hg;exact⟨b2,hg,_,heap_sortedI _ hcur,hcap,hmax,by simp[putCells,hsz],take_putCellsI cur _ (by omega),hl⟩
theorem cy{w W:World}{g cap n:Nat}{zs:List Int}(h:OQ w W g cap n zs)(hbig:n<=17592186044416):Calls Tryz.prog 191 #[.slice (some ⟨g,0,none⟩) n cap] W λe W2=>e = .returned (.slice (some ⟨g,0,none⟩) (Lib.compact zs).length cap)/\OQ w W2 g cap (Lib.compact zs).length (Lib.compact zs):=by
 obtain⟨hb,hg,cur,hcur,hcap,hmax,hsz,ht,rfl⟩:=h;refine(Any.slices_Compact_int MN g 0 cap zs W (holds_of_blockI hcur ht) (by omega) hcap).mono λe W2 ⟨he,q,hW⟩=>⟨he,?_⟩;subst hW;have hcl:=Lib.compact_length_le zs
 generalize Lib.compact zs=cs at hcl ⊢
 generalize hts:cs++List.replicate (zs.length-cs.length) (0:Int)=ts
 have htl:ts.length=zs.length:=by rw[<- hts,Fb,N7];omega
 have b2:=Ys (n:=q) (os:=#[]) (d:=ts.toArray) hb hg;have h2:=heap_sortedI (n:=q) (os:=#[]) ts.toArray hcur;rw[grow_empty]at b2 h2;have h3:=take_putCellsI cur ts (by omega);refine⟨b2,hg,_,h2,by omega,hmax,by simp[putCells,hsz],?_,rfl⟩;have:=Bi (List.take cs.length) h3;rw[List.take_take,Nat.min_eq_left (by omega),<- List.map_take,<- hts,List.take_left' rfl]at this;rw[<- hts];exact this
def kH(w w':World)(v:Value)(r:List Int):Prop:=
 (v = .slice none 0 0/\r=[])\/∃ g cap,v = .slice (some ⟨g,0,none⟩) r.length cap/\OQ w w' g cap r.length r
set_option maxHeartbeats 4000000 in
set_option maxRecDepth 100000 in
theorem jP(a:Option Addr)(n c:Nat)(zs:List Int)(w:World)(hz:zs.length=n)(hn:a=none->n=0)(hbig:n<=17592186044416)
  (hc:0<n->∃ b off,a=some ⟨b,off,none⟩/\∀ j,j<n->w.cell? ⟨b,off+j,none⟩=some (.int .i64 (zs.getD j 0))) :
  Calls Tryz.prog 137 #[.slice a n c] w λe w'=>∃ v,e = .returned v/\Below w.heap.size w w'/\kH w w' v (Lib.compact (zs.mergeSort λx y=>decide (x<=y))):=by
 cases a with
 | none=>
  obtain rfl:=hn rfl;obtain rfl:zs=[]:=zzL91.1 hz
  have hr:Lib.compact (([]:List Int).mergeSort λx y=>decide (x<=y))=[]:=by simp[Lib.compact,Lib.compactUpTo]
  rw[hr];have h1:Calls Tryz.prog 189 #[.slice none 0 c] w λe w'=>e = .returned (.slice none 0 0)/\w'=w:=Any.slices_Clone_int_nil BB 0 c w;have h2:Calls Tryz.prog 190 #[.slice none 0 0] w λe w'=>e = .returned (.tuple #[])/\w'=w:=Any.slices_Sort_int_none bZ none 0 w;have h3:Calls Tryz.prog 191 #[.slice none 0 0] w λe w'=>e = .returned (.slice none 0 0)/\w'=w:=Any.slices_Compact_int_empty MN none 0 w
  go_enter Tryz.func137,Tryz.ntmps137
  go_wp2_with (first
   | (go_at_call 189;refine h1.mono ?_;rintro e W ⟨rfl,rfl⟩)
   | (go_at_call 190;refine h2.mono ?_;rintro e W ⟨rfl,rfl⟩)
   | (go_at_call 191;refine h3.mono ?_;rintro e W ⟨rfl,rfl⟩))
  go_ret
  exact⟨_,rfl,Below.refl _ _,.inl ⟨rfl,rfl⟩⟩
 | some ad=>
  have h1:Calls Tryz.prog 189 #[.slice (some ad) n c] w λe W=>∃ g cap,e = .returned (.slice (some ⟨g,0,none⟩) n cap)/\OQ w W g cap n zs:=by
   by_cases h0:n=0
   ·subst h0;obtain rfl:zs=[]:=zzL91.1 hz;exact fx ad c w
   ·obtain⟨b,off,hab,hcell⟩:=hc (by omega);obtain rfl:=OI hab;exact kw b off n c zs w hz hbig hcell
  go_enter Tryz.func137,Tryz.ntmps137
  go_wp2_with (first
   | (go_at_call 189;refine h1.mono ?_;rintro e W ⟨g,cap,rfl,hO⟩)
   | (go_at_call 190;refine(oD hO hbig).mono ?_;rintro e W2 ⟨rfl,hO2⟩)
   | (go_at_call 191;refine(cy hO2 hbig).mono ?_;rintro e W3 ⟨rfl,hO3⟩))
  go_ret
  exact⟨_,rfl,hO3.1,.inr ⟨_,_,rfl,hO3⟩⟩
def XP(x:Int):List Int->List Int
 | []=>[x]
 | y::l=>if x<=y then x::y::l else y::XP x l
def hZ:List Int->List Int
 | []=>[]
 | x::l=>XP x (hZ l)
theorem insI_perm(x:Int):∀ l,(XP x l).Perm (x::l)
 | []=>.refl _
 | y::l=>by
  unfold XP
  split
  ·exact .refl _
  ·exact((insI_perm x l).cons y).trans (.swap x y l)
theorem bU{x:Int}:∀{l:List Int},l.Pairwise (·<=·)->(XP x l).Pairwise (·<=·)
 | [],_=>by simp[XP]
 | y::l,h=>by
  have h':=zzL69.1 h;unfold XP
  split
  ·rename_i hxy
   exact zzL69.2 ⟨λz hz=>by
    rcases zzL35.1 hz with rfl|hz
    ·exact hxy
    ·exact Int.le_trans hxy (h'.1 z hz),h⟩
  ·rename_i hxy
   refine zzL69.2 ⟨λz hz=>?_,bU h'.2⟩;rcases zzL35.1 ((insI_perm x l).mem_iff.1 hz) with rfl|hz
   ·omega
   ·exact h'.1 z hz
theorem MM:∀ l,(hZ l).Perm l
 | []=>.refl _
 | x::l=>(insI_perm x _).trans ((MM l).cons x)
theorem bW:∀ l,(hZ l).Pairwise (·<=·)
 | []=>.nil
 | x::l=>bU (bW l)
theorem bV(l:List Int):hZ l=l.mergeSort λx y=>decide (x<=y):=by
 refine List.Perm.eq_of_pairwise (le:=(·<=·)) (λa b _ _ h1 h2=>Int.le_antisymm h1 h2) (bW l) ?_ ((MM l).trans (List.mergeSort_perm l _).symm);have:=List.pairwise_mergeSort (le:=λ(x y:Int)=>decide (x<=y)) (λa b c h1 h2=>by simp at *;omega) (λa b=>by simp;omega) l
 exact this.imp λh=>by simpa using h
def Zx(l:List Int):Option (List Int):=Bh (l.length<=17592186044416) (some (Lib.compact (hZ l)))
theorem ZN(l r:List Int)(h:Zx l=some r):Spec Tryz.prog 137 [AV.list 1 (λx=>[.int .i64 x]) (0:Int) l .none] [] (AV.list 1 (λx=>[.int .i64 x]) (0:Int) r .none) []:=by
 obtain⟨hlen,h⟩:=Mc h;rw[bV]at h;obtain rfl:=OI h;refine⟨enters_of Tryz.func137 (by kernel_rfl) rfl,λw I θ zs hargs _ hval _=>?_⟩;obtain⟨v,rfl,hv⟩:=io hargs;obtain⟨_,a,cap,us,rfl,hcap,hmax,hz,hnn,h1,hl,hr⟩:=hv.slice_val.slice_inv
 have hint:∀ i,i<l.length->us i = .int .i64 (l.getD i 0):=λi hi=>by
  have:=hr i 0 hi (by omega);rw[Ps,Jc]at this;have h2:RepV I w (us i) (.int .i64 (l.getD i 0)):=this;exact Rep.int_inv (own:=Ae []) (θ:=θ) (.val _ _ h2)
 refine(jP a l.length cap l w rfl (λha=>by have:=hnn ha;omega) hlen (λhp=>?_)).mono λe w' ⟨v,he,hb,hout⟩=>?_
 ·obtain⟨b,rfl,hs,_,hcell⟩:=hz hp;obtain⟨blk,off,spot⟩:=b;simp only at hs hcell;subst hs;exact⟨blk,off,rfl,λj hj=>by rw[hcell j (by omega),hint j hj]⟩
 ·generalize Lib.compact (l.mergeSort λx y=>decide (x<=y))=r at hout ⊢
  rcases hout with⟨rfl,rfl⟩|⟨g,cap',rfl,_,hg,cur,hcur,hc1,hc2,hc3,htake,_⟩
  ·exact⟨_,_,θ,he,Wv hb hval (N:=λ_ _=>False) (λ_ _ h=>h.elim),.val _ _ (.slice none 0 0 1 _ (λ_=>undef) (zzL5 _) (Lz _) (λh=>by cases h) (λ_=>rfl) (λj hj=>by simp at hj) (λi hi=>by cases hi) (λi c hi=>by cases hi))⟩
  ·have hcell:∀ j,j<r.length->w'.cell? ⟨g,j,none⟩=some (.int .i64 (r.getD j 0)):=λj hj=>by
    rw[Jd _ _ _ cur 3 (0,0) hcur]
    have h2:(cur.toList.take r.length)[j]?=(r.map (Value.int .i64))[j]?:=by rw[htake]
    rw[List.getElem?_take_of_lt hj,Array.getElem?_toList]at h2;rw[h2];simp[List.getD,hj]
   refine⟨_,_,θ,he,Wv hb hval (N:=λb o=>b=g/\o<r.length) (λb o ⟨hbg,ho⟩=>⟨by omega,by subst hbg;exact⟨_,hcell o ho⟩⟩),.val _ _ (.slice (some ⟨g,0,none⟩) r.length cap' 1 _ (λj=>.int .i64 (r.getD j 0)) hc1 hc2 (λ_=>⟨⟨g,0,none⟩,rfl,rfl,λj hj=>.inr ⟨rfl,by simpa using hj⟩,λj hj=>by rw[E2];exact hcell j (by omega)⟩) (λh=>by cases h) (λ_ _=>rfl) (λ_ _=>rfl) (λi c hi hc=>?_))⟩
   obtain rfl:c=0:=by omega
   rw[Ps,Jc];exact .int _ _
abbrev Au:=List Int
abbrev Pu:=List (List Int)
def F3:=[30000,37006,9100005]
def Wp:=[(30000,30000),(37006,37006),(9100005,9100005)]
def F7:=[30000,37006]
def Oi:=[3,30000,37006,9100005]
def L5:=[2,5,6,25,36007]
def Q6:=[6,30000,37006,9100005]
def N8:=[10,30000,9100002]
def KB:=[3,4,30000,36005,36006,9100002]
def EX:=[(30000,30000),(37006,37006)]
def L6:=[2,13,21]
def Vq:=[3,4,15,34,30000,9100002]
def Mz:=[8,30000,37006]
def Je:=[1,7,8,9]
def Tv:=[30000,37006,13000005]
def Vs:=[3,4,15,30000,9100002]
def AD:=[3,5,30000,37006,9100005]
def AE:=[0,4,6,21,22,30,31,32]
def Oo:=[30000,9100002]
def R6:=[7,11,5702,6101]
def Xn:=[2,5,6,7,26,27,28]
def Fc:=[0,1]
def Fd:=[1,2]
def OA:=[(30000,30000),(9100002,9100002)]
def JX:=[4,5,9,29,57,5902,30000]
def ED:=[5,30000,37006,9100005]
def cI:=[0,2,3,8,9,16,17,18,54,55,56,62,63,64]
def cJ:=[0,2,3,5,16,17,18,24,25,26,31,32,33]
def EE:=[0,4,5,9,68,69,70]
def JY:=[0,3,4,5,6,12,13,14]
def JZ:=[5,6,7,8,9,10,11,12]
def EF:=[3,4,5,6,29,30000]
def Xo:=[2,5,6,7,8,9]
def OB:=[3,9,30000,37006,9100005]
def Vt:=[3,10,11,12]
def Vu:=[2,5,6,7,8]
def Vv:=[1,3,4,5,6]
def VR:=[0,2,3,16,17,18,24,25,26]
def VS:=[0,2,3,16,17,18,54,55,56]
def Oq:=[3,6,11]
def js:=[(30000,30000),(37006,37006),(13000005,9200005)]
def R7:=[0,1,5,6]
def jt:=[(30000,30000),(37006,37006),(9300005,9200005)]
def Qp:=[10,70010]
def EG:=[1,5,11,12,13]
def OC:=[5,6,7,8,9,10,11]
def cK:=[4,5,9,11,29,57,5902,30000]
def cL:=[3,4,6,14,15,16,21,22,23]
def cM:=[3,4,6,14,15,16,33,34,35]
def EH:=[1,7,8,9,10]
def OD:=[3,31,30000,37006]
def AF:=[30000,35000]
def OE:=[3,4,5,14,15,16]
def EI:=[1,6,7,8,9]
def cN:=[3,4,11,12,13,18,19,20]
def cO:=[0,5,12,13,14,18,19,20]
def cP:=[6,7,30000,37006,9100005]
def OG:=[5,6,7,8,9,10]
def KA:=[1,7,8,9,16]
def Xp:=[0,21,22]
def VT:=[3,4,30000,9100002]
def Tw:=[0,1,5]
def OH:=[31,30000,37006]
def AG:=[0,1,7,8]
def cQ:=[0,3,4,5,8,36,37,38]
def cR:=[0,3,4,5,6,33,34,35]
def VU:=[0,2,3,16,17,18]
def VV:=[3,4,6,14,15,16]
def ju:=[0,3,4,5,8,9,10,36,37,38]
def Vw:=[0,3,4]
def jv:=[0,4,6,21,22,30,31,32,33]
def jx:=[0,4,6,21,22,30,31,32,40]
def nJ:=[(30000,30000),(9100002,9100002),(10,20000)]
def OJ:=[0,5,8,9,10]
def jy:=[0,4,6,8,21,22,30,31,32]
def cS:=[0,3,4,5,17,18,19]
def jz:=[(30000,30000),(29,9100002)]
def nK:=[(30000,30000),(37006,37006),(8,9200005)]
def AH:=[0,1,10]
def Xq:=[2,5,6]
def OK:=[0,16,17,18]
def VW:=[3,4,14,15,16]
def cT:=[2,5,6,7,8,9,10]
def j0:=[6,8,30000,37006,9100005]
def VX:=[3,30000,37006]
def VY:=[0,3,9,10,11]
def Qq:=[0,3]
def cU:=[2,4,5,18,19,20]
def KC:=[4,5,5502]
def VZ:=[(34000,34000)]
def EJ:=[10,5003]
def R8:=[2,3]
def WA:=[3,11,12,13]
def WB:=[0,12,13,14]
def WC:=[0,1,6,7,8]
def WD:=[6,18,19,25]
def WE:=[4,15,16,17]
def WF:=[0,3,4,5,6]
def OL:=[2,5,6,7]
def OM:=[18,19,20]
def j4:=[3,4,5,7,14,15,16]
def Q5:=[2,16]
def je:=[2,5,6,7,9,10,26,27,28,44]
def Yg:=[1,4,22]
def ZO:=[30000,37006,9300005]
def jf:=[3,4,10,15,34,30000,9100002]
def jg:=[0,3,4,5,6,7,8,12,13,14]
def QX:=[0,1,3,9,10]
def ZP:=[0,1,5,14,15,16]
def Yh:=[7,5702]
def jh:=[2,5,6,7,9,10,26,27,28]
def JT:=[0,1,6,7]
def QY:=[0,15,16,17]
def QZ:=[0,21,22,23]
def RA:=[6,25,26,27]
def ji:=[(36005,34000),(31,34002)]
def jj:=[(36006,34000),(42,34002)]
def ZQ:=[0,1,5,7,8,16]
def jk:=[2,5,6,7,26,27,28,29]
def Vr:=[3,11]
def JU:=[5,18,19]
def JV:=[6,18,19]
def CO:=[1,2,5]
def ZR:=[1,2,15,16,17]
def jl:=[2,5,6,7,9,26,27,28]
def ZS:=[0,1,32,33,34]
def jm:=[10,30000,37006,9100005]
def CP:=[1,2,3]
def RB:=[2,5,6,25]
def jn:=[2,5,6,7,8,9,10,60]
def jo:=[4,30000,37006,9100005]
def RC:=[1,2,3,14]
def ZT:=[0,3,4,14,15]
def ZU:=[0,4,6,21,22]
def JW:=[1,2,11]
def RD:=[5,6,7,8]
def RE:=[0,2,7,8]
def ZV:=[(34001,34001)]
def CQ:=[18,19]
def RF:=[0,3,4,5]
def jp:=[4,5,9,29,57,30000]
def RG:=[1,2,3,4]
def RH:=[1,5,6,7]
def jq:=[4,9,29,5902,30000]
def ZW:=[1,23,24,25]
def ZX:=[3,38,39,40]
def ZY:=[0,37,38,39]
def ZZ:=[0,1,7,8,9]
def aa:=[0,1,5,7,8]
def ab:=[0,3,4,5,8]
def ae:=[0,1,12,13]
def af:=[0,6,21,22]
def jr:=[(9200002,10001102)]
def RI:=[7,34000]
def ah:=[7,11,5702]
set_option maxRecDepth 100000
set_option maxHeartbeats 2000000
def Aq(x:Int):List AV:=[(.int .i64 x)]
def I6(x:Au):List AV:=[(AV.list 1 Aq 0 x .none)]
structure A4 where
 Bits:Int
 Dst:Int
 From:Au
 Args:Au
 deriving Inhabited,DecidableEq
def Ee(x:A4):List AV:=[(.int .i64 x.Bits),(.int .i64 x.Dst),(AV.list 1 Aq 0 x.From .none),(AV.list 1 Aq 0 x.Args .none)]
structure Bz where
 Kind:Int
 Bits:Int
 Lanes:Int
 Dst:Int
 Args:Au
 Imm:Int
 deriving Inhabited,DecidableEq
def E4(x:Bz):List AV:=[(.int .i64 x.Kind),(.int .i64 x.Bits),(.int .i64 x.Lanes),(.int .i64 x.Dst),(AV.list 1 Aq 0 x.Args .none),(.int .u64 x.Imm)]
def SM(x:List Bz):List AV:=[(AV.list 6 E4 default x .none)]
structure F4 where
 Kind:Int
 Arg:Int
 To:Au
 deriving Inhabited,DecidableEq
def gi(x:F4):List AV:=[(.int .i64 x.Kind),(.int .i64 x.Arg),(AV.list 1 Aq 0 x.To .none)]
structure Ac where
 Phis:List A4
 Ops:List Bz
 End:F4
 deriving Inhabited,DecidableEq
def Bm(x:Ac):List AV:=[(AV.list 4 Ee default x.Phis .none),(AV.list 6 E4 default x.Ops .none),(.int .i64 x.End.Kind),(.int .i64 x.End.Arg),(AV.list 1 Aq 0 x.End.To .none)]
structure Ab where
 Params:Au
 Ret:Int
 Blocks:List Ac
 deriving Inhabited,DecidableEq
def oK(x:Ab):List AV:=[(AV.list 1 Aq 0 x.Params .none),(.int .i64 x.Ret),(AV.list 5 Bm default x.Blocks .none)]
structure fE where
 At:Int
 Then:Int
 Else:Int
 Join:Int
 deriving Inhabited,DecidableEq
abbrev Gu:=(Int×Int)
def Bu(x:Gu):List AV:=[(.int .i64 x.1),(.int .i64 x.2)]
structure Ia where
 block:Int
 at_:Int
 deriving Inhabited,DecidableEq
def FI(x:Ia):List AV:=[(.int .i64 x.block),(.int .i64 x.at_)]
structure A6 where
 v:Int
 shape:Gu
 place:Ia
 deriving Inhabited,DecidableEq
def Ka(x:A6):List AV:=[(.int .i64 x.v),(.int .i64 x.shape.1),(.int .i64 x.shape.2),(.int .i64 x.place.block),(.int .i64 x.place.at_)]
structure C8 where
 Succ:Pu
 Pred:Pu
 deriving Inhabited,DecidableEq
def P4(x:C8):List AV:=[(AV.list 1 I6 [] x.Succ .none),(AV.list 1 I6 [] x.Pred .none)]
def eB(x:Bool):List AV:=[(.bool x)]
structure Aw where
 shape:Gu
 place:Ia
 deriving Inhabited,DecidableEq
def bO(x:Aw):List AV:=[(.int .i64 x.shape.1),(.int .i64 x.shape.2),(.int .i64 x.place.block),(.int .i64 x.place.at_)]
structure rO where
 f:Ab
 h:fE
 ops:List Bz
 last:Int
 deriving Inhabited,DecidableEq
structure G1 where
 V:Int
 Block:Int
 At:Int
 Shape:Gu
 deriving Inhabited,DecidableEq
structure M1 where
 V:Int
 Block:Int
 At:Int
 Shape:Gu
 deriving Inhabited,DecidableEq
def kC(x:List Bool):List AV:=[(AV.list 1 eB false x .none)]
structure CS where
 x:Int
 y:Int
 became:List Gu
 deriving Inhabited,DecidableEq
def tQ(x:Int):List AV:=[(.int .u8 x)]
structure s7 where
 Args:Au
 Mem:Au
 Fuel:Int
 deriving Inhabited,DecidableEq
structure nk where
 Write:Bool
 At:Int
 Byte:Int
 deriving Inhabited,DecidableEq
structure tK where
 bytes:Au
 trace:List nk
 deriving Inhabited,DecidableEq
structure tM where
 Code:Int
 Value:Int
 Steps:Int
 deriving Inhabited,DecidableEq
theorem mix:Tryz.prog.follows .mixedOrders=true:=by kernel_rfl
abbrev sP:=Spec Tryz.prog
abbrev KE:=(Nat×Own)
theorem sG {f : FuncId} {fn : Func} {args : List AV} {H H' : List KE} {res : AV} (hf : Tryz.prog.funcs[f]? = some fn) (k : ∀ Γ : G2, RgQ Tryz.prog Γ fn.ntmps H → GG Tryz.prog Γ (fK Tryz.prog Γ fn.results.toList H res H') (mz (OY fn) []) (AZ args H)) (hb : fn.body.isSome = true := by kernel_rfl) (hname : (fn.name == "runtime.NumGoroutine") = false := by kernel_rfl) (hlen : Nat.ble args.length fn.ntmps = true := by kernel_rfl) (hpl : IH H = true := by kernel_rfl) : sP f args H res H' := CC mix hf k hb hname hlen hpl
def Z1:=λza zb zc zd zf zg zm=>((30000,.row 102 [(AV.list 1 Aq 0 za .none),(.int .i64 zb),(AV.list 5 Bm default zc .none),(.int .i64 zd),(AV.list 1 Aq 0 zf .none),(.omap zg),(AV.list 5 Ka default zm (.own 37006))]):Nat×Own)
def Z2:=λza zb zc=>((30000,.row 137 [(.int .i64 za),(.int .i64 zb),(.omap zc)]):Nat×Own)
def Z3:=λza zb zc zd zf zg zm=>([(30000,.row 102 [(AV.list 1 Aq 0 za .none),(.int .i64 zb),(AV.list 5 Bm default zc .none),(.int .i64 zd),(AV.list 1 Aq 0 zf .none),.nilm,(AV.list 5 Ka default zg (.own 37006))]),(37006,.tok 5 211 zm)]:List KE)
def Z4:=λza (zb:Au)=>((za,.arr 1 3 zb.length (λi=>Aq (zb.getD i 0))):Nat×Own)
def Z5:=λza=>((.int .i64 za):AV)
def Z6:=λza=>(⟨[],[],(.bool za),[],[],[]⟩:R9)
def Z7:=λza zb zc zd zf zg zm zn=>([(Z1 za zb zc zd zf 9100005 zg),(37006,.tok 5 211 zm),(9100005,.obj (.map false .i64 zn))]:List KE)
def Z8:=λza (zb:List Bool)=>((za,.arr 1 4 zb.length (λi=>eB (zb.getD i false))):Nat×Own)
def Z9:=λza zb zc zd zf zg=>((30000,.row 102 [(AV.list 1 Aq 0 za .none),(Z5 zb),(AV.list 5 Bm default zc .none),(Z5 zd),(AV.list 1 Aq 0 zf .none),(.omap 8),(AV.list 5 Ka default zg (.own 37006))]):Nat×Own)
def L8:=λza=>((AV.list 1 Aq 0 za .none):AV)
def kW:=λza=>((AV.list 2 Bu ((0:Int),(0:Int)) za .none):AV)
def Kk:=((.int .i64 (0:Int)):AV)
def OS:=λza zb zc zd zf zg zm=>([(Z1 za zb zc zd zf 9100005 zg),(37006,.tok 5 211 zm)]:List KE)
def Ws:=((.slice 0 0 (λ_=>[]) .exact):AV)
def cj:=((AV.list 1 Aq 0 ([]:Au) .exact):AV)
def rP:=λza (zb:Au) (zc:Au)=>((.slice 1 (bif za then zb.length else zc.length) (λi=>bif za then Aq (zb.getD i 0) else Aq (zc.getD i 0)) .none):AV)
def WR:=λza (zb:List Bz)=>((za,.arr 6 70 zb.length (λi=>E4 (zb.getD i default))):Nat×Own)
def RJ:=λza=>((AV.list 5 Bm default za .none):AV)
def kX:=λza zb=>([(10,.arr 1 22 za (Of 1 Aq (0:Int) zb (Tag.fam 70010)))]:List KE)
def Wm:=λza zb=>((AV.list 1 Aq 0 za (.own zb)):AV)
def Sd:=λza=>((.agg (bO za)):AV)
def py:=λza zb zc zd zf zg zm zn=>(⟨[(30000,30000),(37006,37006),(9100005,9100005)],[],(.tuple []),(Z7 za zb zc zd zf zg zm zn),[],[]⟩:R9)
def sJ:=λza (zb:List A6) (zc:List A6)=>((.slice 5 (bif za then zb.length else zc.length) (λi=>bif za then Ka (zb.getD i default) else Ka (zc.getD i default)) (.own 37006)):AV)
def fG:=λza (zb:List A4)=>([(za,.arr 4 67 zb.length (λi=>Ee (zb.getD i default)))]:List KE)
def RK:=λza=>((AV.list 1 I6 [] za .none):AV)
def Yp:=λza=>((.agg (oK za)):AV)
def ck:=λza=>(⟨[],[],(kW za),[],[],[]⟩:R9)
def mh:=λza zb=>((.agg (bO (D7 (default:Aw) za zb))):AV)
def pz:=λza zb zc zd=>(⟨[(30000,30000),(9100002,9100002)],[],(Z5 za),[(Z2 zb zc 9100002),(9100002,.obj (.map true .i64 zd))],[],[30000,9100002]⟩:R9)
def p9:=λza zb=>([(30000,.row 81 [(.vsl 35000 za)]),(Z8 35000 zb)]:List KE)
def pE:=((AV.list 1 Aq 0 ([(8:Int)]:Au) .exact):AV)
def np:=λza=>((AV.list 1 Aq 0 ([za]:Au) .exact):AV)
def rQ:=((AV.list 2 Bu ((0:Int),(0:Int)) ([]:List Gu) .exact):AV)
def KK:=λza zb=>((za,.obj (.map true .i64 zb)):Nat×Own)
def fH:=λza=>(⟨[],[],(Z5 za),[],[],[]⟩:R9)
def eH:=((.int .i64 (8:Int)):AV)
def eI:=λza zb=>((AV.list 6 E4 default za (.own zb)):AV)
def LP:=((2,(.ptr 2 0)):Nat×AV)
def nq:=λza zb=>([(3,.row 81 [(.vsl 11 za)]),(Z8 11 zb)]:List KE)
def s8:=λza (zb:List Ac) (zc:List Ac)=>((.slice 5 (bif za then zb.length else zc.length) (λi=>bif za then Bm (zb.getD i default) else Bm (zc.getD i default)) .none):AV)
def RL:=λza zb=>((za,(.int .i64 (zb:Int))):Nat×AV)
def j9:=λza=>(⟨[],[],(Yp za),[],[],[]⟩:R9)
def qA:=λ(za:Au)=>((6,.arr 1 231 64 (λi=>Aq (za.getD i 0))):Nat×Own)
def kY:=λza zb=>((AV.list 5 Bm default za (.own zb)):AV)
def qB:=((AV.list 6 E4 default ([]:List Bz) .exact):AV)
def sK:=λza zb=>(⟨[],[(20000,10)],(AV.list 1 eB false za (.own 20000)),[(20000,.tok 1 4 zb)],[],[]⟩:R9)
def sL:=λza zb zc zd zf zg zm zn zp=>(⟨[(30000,30000),(37006,37006),(9100005,9100005)],[],(.agg (FI za)),(Z7 zb zc zd zf zg zm zn zp),[],[]⟩:R9)
def s9:=λza (zb:Au) (zc:Au)=>((.slice 1 (bif (za==true) then zb.length else zc.length) (λi=>bif (za==true) then Aq (zb.getD i 0) else Aq (zc.getD i 0)) .none):AV)
def sM:=λza=>((za,.arr 1 3 (([]:Au).length) (λi=>Aq (([]:Au).getD i 0))):Nat×Own)
abbrev eO:=(Nat×AV)
def sO:=λza zb zc zd zf=>([(za,(AV.list 5 Bm default zb .exact)),(zc,(AV.list 5 Bm default (zd++zb) (.own zf)))]:List eO)
def Wt:=λza zb=>((za,.tok 1 3 zb):Nat×Own)
def qC:=λza=>((6,(.int .i64 (Int.tmod (Ay za) (4:Int)))):Nat×AV)
def rR:=λza zb zc zd zf zg zm zn=>(⟨[(30000,30000),(37006,37006)],[],(.bool za),(Z3 zb zc zd zf zg zm zn),[],[]⟩:R9)
def sQ:=λ(za:List Gu)=>([(30,.arr 2 90 za.length (λi=>Bu (za.getD i ((0:Int),(0:Int)))))]:List KE)
def Lm:=λza zb zc=>((za,.tok 5 zb zc):Nat×Own)
def fI:=((6,(.vpt 6 64 0 0)):Nat×AV)
def sR:=λza zb zc=>([(za,.arr 1 3 zb (λi=>Aq ((List.replicate (zc:Int).toNat (0:Int)).getD i 0)))]:List KE)
def rS:=((AV.list 1 Aq 0 ([(1:Int)]:Au) .exact):AV)
def tA:=λza zb zc zd zf zg=>(⟨[(30000,30000),(9100002,9100002)],[(20000,za)],(Wm zb 20000),[(Z2 zc zd 9100002),(KK 9100002 zf),(Wt 20000 zg)],[],[30000,9100002]⟩:R9)
def sS:=λza zb zc zd zf zg zm zn zp=>(⟨[(30000,30000),(37006,37006),(9100005,9100005)],[],(.bool za),(Z7 zb zc zd zf zg zm zn zp),[],[]⟩:R9)
def OT:=((4,(.ptr 4 0)):Nat×AV)
def fJ:=((5,(.vpt 5 64 0 0)):Nat×AV)
def mi:=λza zb zc=>((.int .i64 (bif za then zb else zc)):AV)
def rT:=((AV.list 4 Ee default ([]:List A4) .exact):AV)
def pF:=λza=>((AV.list 4 Ee default za .none):AV)
def kZ:=((.int .i64 (1:Int)):AV)
def nr:=λza zb=>([(.int .u64 za),(.int .u64 zb)]:List AV)
def eJ:=λza=>((6,.arr 1 231 64 za):Nat×Own)
def qD:=λza=>(⟨[],[],(.agg (Bu za)),[],[],[]⟩:R9)
def eK:=λza=>((0,(.vsl 34000 za)):Nat×AV)
def pG:=λza=>((AV.list 6 E4 default za .none):AV)
def sT:=λza zb=>(⟨[(3,30000),(11,35000)],[],(.tuple []),(p9 za zb),[],[]⟩:R9)
def rU:=λza=>((AV.list 1 Aq 0 ([]:Au) (.own za)):AV)
def sU:=λza zb zc=>((.agg [za,eH,zb,(.int .i64 (2:Int)),zc,(.int .u64 (8:Int))]):AV)
def rV:=λza=>((za,.tok 5 64 (([]:List Ac).length)):Nat×Own)
def fL:=λza=>((5,.arr 1 230 64 za):Nat×Own)
def fM:=([(.ptr 30000 0)]:List AV)
def qE:=λza zb zc=>([(za,.row 137 [(Z5 zb),(Z5 zc),.nilm])]:List KE)
def sV:=λza zb=>(⟨[(30000,30000),(37006,37006)],[],(Z5 za),zb,[],[]⟩:R9)
def sW:=((AV.list 5 Bm default ([]:List Ac) .exact):AV)
def mj:=λza zb zc=>([(Z5 za),(Z5 zb),(.omap zc)]:List AV)
def RM:=λza=>((2,.row 56 za):Nat×Own)
def ml:=((0,(.ptr 30000 0)):Nat×AV)
def KL:=λza zb=>((5,(.vsl za zb)):Nat×AV)

abbrev ow:=(LR (Int×Int) Int)
def Mg(a2:Ab):Gu->Option ow:=
 λ((i1,i2):Gu)=>(bif (decide (i2<(a2.Blocks.length:Int))) then(Bh (Bl i2 a2.Blocks.length) (some (.next ((Ay (i1+(Ay ((((a2.Blocks.getD i2.toNat default).Phis).length:Int)+(((a2.Blocks.getD i2.toNat default).Ops).length:Int))))),(Ay (i2+1)))))) else(some (.done i1)))
def Ez(a2:Ab):Option Int:=
 ((Af (Mg a2) ((a2.Blocks.length:Int),(0:Int))).bind (λx5=>(some x5)))
variable{v0:Ab}{v1:Int}
theorem Mt(h:Ez v0=some v1):sP 49 [(Yp v0)] [] (.int .i64 v1) []:=
 sG Tryz.func49 λΓ q=>tW q [1] [1] [1,3] [1] (Ak q Vt [] (tL q h Vt [] (λu (i1,i2)=>(Ek u [(3,(Z5 i1)),(12,(Z5 i2))] [])) (λu i3=>aG Γ (.exit 0) (⟨[(3,(Z5 i3))],[],[]⟩:St)) (λ⟨i1,i2⟩ y h=>Ak q [3,10,11,12,13] [] (gC h (λh=>tV q [3,5,10,11,12] [5] h λh=>tW q Vt [] Vt [] (tN h)) λh=>tS h (gO (C3 (Cw [3] [] q))))) λx5 h=>gA (Ak q [2] [] (tS h (Dm [])))))
def Hd(a6:Au):Int->Option (LR Int (Unit ⊕ Bool)):=
 λ(i1:Int)=>(bif (decide (i1<(a6.length:Int))) then(Bh (Bl i1 a6.length) (bif (bif (decide ((a6.getD i1.toNat 0)<0)) then true else(decide ((2147483647:Int)<(a6.getD i1.toNat 0)))) then(some (.done (.inr false))) else(some (.next (Ay (i1+1)))))) else(some (.done (.inl ()))))
def Yk(Γ:G2)(a6:Au)(r:Bool):Exit->St->Prop:=fK Tryz.prog Γ Tryz.f181.results.toList [] (.bool r) []
def C4(a6:Au):Option Bool:=
 ((Af (Hd a6) (0:Int)).bind (λx3=>(match x3 with|(.inl _)=>(some true)|(.inr r5)=>(some r5))))
variable{v2:Au}{v3:Bool}
theorem Fg(h:C4 v2=some v3):sP 181 [(L8 v2)] [] (.bool v3) []:=
 sG Tryz.func181 λΓ q=>tW q [0] [] [5,6,7] [] (tL q h [5,6,7] [] (λu i1=>(Ek u [(7,(Z5 i1))] [])) (λu x_=>match x_ with|(.inl _)=>aG Γ (.exit 0) (⟨[],[],[]⟩:St)|(.inr r_)=>aR (Yk Γ v2 r_)) (λi1 y h=>Ak q RD [] (gC h (λh=>tV q [4,5,6,7] [] h λh=>tU q [5,6,7,16] [] (c2 (gI ((decide ((v2.getD i1.toNat 0)<0))==false)) (FM (decide ((v2.getD i1.toNat 0)<0)))) (gC h (λh=>Ak q [2] [] (tS h (gO (O8 (J1 [] (Le.refl _ _)))))) λh=>Ak q [5,6,7] [] (tN h))) λh=>tS h (gO (C3 (Cw [] [] q))))) λx3 h=>(match x3,h with | .inl _,h=>gA (Ak q [2] [] (tS h (Dm []))) | .inr r5,h=>Uq (λst' hk=>tS h (gK hk))))
def F1(a6:Au):Option Bool:=
 ((bif ((decide ((a6.length:Int)<=64))==true) then C4 a6 else some false).bind λx1=>(some (bif (decide ((a6.length:Int)<=64)) then x1 else false)))
theorem J6(h:F1 v2=some v3):sP 263 [(L8 v2)] [] (.bool v3) []:=
 sG Tryz.func263 λΓ q=>Ak q [0] [] (tB h λx1 y1 h=>tT q [2] [] [(Z6 x1)] (c3 (gI ((decide ((v2.length:Int)<=64))==true)) (λ(hg:((decide ((v2.length:Int)<=64))==true)=true)=>(Fg (Db hg y1))) (P5 (decide ((v2.length:Int)<=64)))) (tS h (Dm [])))
def Mi(aS:A4):Option Bool:=
 ((C4 ([aS.Bits,aS.Dst]:Au)).bind λx1=>((bif (x1==true) then F1 aS.From else some false).bind λx2=>((bif ((bif x1 then x2 else false)==true) then F1 aS.Args else some false).bind λx3=>(some (bif (bif x1 then x2 else false) then x3 else false)))))
variable{v4:A4}
theorem ER(h:Mi v4=some v3):sP 227 [(.agg (Ee v4))] [] (.bool v3) []:=
 sG Tryz.func227 λΓ q=>Ak q [1] [1] (tB h λx1 y1 h=>tB h λx2 y2 h=>tB h λx3 y3 h=>gR q [2] [] [(7,(AV.list 1 Aq 0 ([v4.Bits,v4.Dst]:Au) .exact))] [(Z6 x1),(Z6 x2),(Z6 x3)] (kA (Bx 1 Aq (0:Int) ([v4.Bits,v4.Dst]:Au)) (Fg y1) (V4 (x1==true) (kA (λ(hg:(x1==true)=true)=>(J6 (Db hg y2))) (P5 x1) (V4 ((bif x1 then x2 else false)==true) (c2 (λ(hg:((bif x1 then x2 else false)==true)=true)=>(J6 (Db hg y3))) (P5 (bif x1 then x2 else false))))))) (tS h (Dm [])))
def Fi(a6:List A4):Int->Option (LR Int (Unit ⊕ Bool)):=
 λ(i1:Int)=>(bif (decide (i1<(a6.length:Int))) then(Bh (Bl i1 a6.length) ((Mi (a6.getD i1.toNat default)).bind λx3=>(bif (!x3) then(some (.done (.inr false))) else(some (.next (Ay (i1+1))))))) else(some (.done (.inl ()))))
def Ty(Γ:G2)(a6:List A4)(r:Bool):Exit->St->Prop:=fK Tryz.prog Γ Tryz.f226.results.toList [] (.bool r) []
def G0(a6:List A4):Option Bool:=
 ((Af (Fi a6) (0:Int)).bind (λx4=>(match x4 with|(.inl _)=>(some true)|(.inr r6)=>(some r6))))
variable{v5:List A4}
theorem S1(h:G0 v5=some v3):sP 226 [(pF v5),(.clo 227 [] [])] [] (.bool v3) []:=
 sG Tryz.func226 λΓ q=>tW q Fc [] Je [] (tL q h Je [] (λu i1=>(Ek u [(9,(Z5 i1))] [])) (λu x_=>match x_ with|(.inl _)=>aG Γ (.exit 0) (⟨[],[],[]⟩:St)|(.inr r_)=>aR (Ty Γ v5 r_)) (λi1 y h=>Ak q EH [] (gC h (λh=>tV q EI [6] h λh=>tB h λx3 y3 h=>tT q KA [] [(Z6 x3)] (c1 (ER y3)) (gC h (λh=>Ak q [4] [] (tS h (gO (O8 (J1 [] (Le.refl _ _)))))) λh=>Ak q Je [] (tN h))) λh=>tS h (gO (C3 (Cw [] [] q))))) λx4 h=>(match x4,h with | .inl _,h=>gA (Ak q [4] [] (tS h (Dm []))) | .inr r6,h=>Uq (λst' hk=>tS h (gK hk))))
def Nm(a3:Bz):Option Bool:=
 ((C4 ([a3.Kind,a3.Bits,a3.Lanes,a3.Dst]:Au)).bind λx1=>((bif (x1==true) then F1 a3.Args else some false).bind λx2=>(some (bif x1 then x2 else false))))
variable{v6:Bz}
theorem HV(h:Nm v6=some v3):sP 229 [(.agg (E4 v6))] [] (.bool v3) []:=
 sG Tryz.func229 λΓ q=>Ak q [1] [1] (tB h λx1 y1 h=>tB h λx2 y2 h=>gR q [2] [] [(11,(AV.list 1 Aq 0 ([v6.Kind,v6.Bits,v6.Lanes,v6.Dst]:Au) .exact))] [(Z6 x1),(Z6 x2)] (kA (Bx 1 Aq (0:Int) ([v6.Kind,v6.Bits,v6.Lanes,v6.Dst]:Au)) (Fg y1) (V4 (x1==true) (c2 (λ(hg:(x1==true)=true)=>(J6 (Db hg y2))) (P5 x1)))) (tS h (Dm [])))
def Fy(a6:List Bz):Int->Option (LR Int (Unit ⊕ Bool)):=
 λ(i1:Int)=>(bif (decide (i1<(a6.length:Int))) then(Bh (Bl i1 a6.length) ((Nm (a6.getD i1.toNat default)).bind λx3=>(bif (!x3) then(some (.done (.inr false))) else(some (.next (Ay (i1+1))))))) else(some (.done (.inl ()))))
def Uf(Γ:G2)(a6:List Bz)(r:Bool):Exit->St->Prop:=fK Tryz.prog Γ Tryz.f228.results.toList [] (.bool r) []
def Hc(a6:List Bz):Option Bool:=
 ((Af (Fy a6) (0:Int)).bind (λx4=>(match x4 with|(.inl _)=>(some true)|(.inr r6)=>(some r6))))
variable{v7:List Bz}
theorem T6(h:Hc v7=some v3):sP 228 [(pG v7),(.clo 229 [] [])] [] (.bool v3) []:=
 sG Tryz.func228 λΓ q=>tW q Fc [] Je [] (tL q h Je [] (λu i1=>(Ek u [(9,(Z5 i1))] [])) (λu x_=>match x_ with|(.inl _)=>aG Γ (.exit 0) (⟨[],[],[]⟩:St)|(.inr r_)=>aR (Uf Γ v7 r_)) (λi1 y h=>Ak q EH [] (gC h (λh=>tV q EI [6] h λh=>tB h λx3 y3 h=>tT q KA [] [(Z6 x3)] (c1 (HV y3)) (gC h (λh=>Ak q [4] [] (tS h (gO (O8 (J1 [] (Le.refl _ _)))))) λh=>Ak q Je [] (tN h))) λh=>tS h (gO (C3 (Cw [] [] q))))) λx4 h=>(match x4,h with | .inl _,h=>gA (Ak q [4] [] (tS h (Dm []))) | .inr r6,h=>Uq (λst' hk=>tS h (gK hk))))
def Mh(aH:F4):Option Bool:=
 ((C4 ([aH.Kind,aH.Arg]:Au)).bind λx1=>((bif (x1==true) then F1 aH.To else some false).bind λx2=>(some (bif x1 then x2 else false))))
variable{v8:F4}
theorem EQ(h:Mh v8=some v3):sP 230 [(.agg (gi v8))] [] (.bool v3) []:=
 sG Tryz.func230 λΓ q=>Ak q [1] [1] (tB h λx1 y1 h=>tB h λx2 y2 h=>gR q [2] [] [(7,(AV.list 1 Aq 0 ([v8.Kind,v8.Arg]:Au) .exact))] [(Z6 x1),(Z6 x2)] (kA (Bx 1 Aq (0:Int) ([v8.Kind,v8.Arg]:Au)) (Fg y1) (V4 (x1==true) (c2 (λ(hg:(x1==true)=true)=>(J6 (Db hg y2))) (P5 x1)))) (tS h (Dm [])))
def J3(aK:Ac):Option Bool:=
 ((G0 aK.Phis).bind λx1=>((bif (x1==true) then Hc aK.Ops else some false).bind λx2=>((bif ((bif x1 then x2 else false)==true) then Mh (⟨aK.End.Kind,aK.End.Arg,aK.End.To⟩:F4) else some false).bind λx3=>(some (bif (bif x1 then x2 else false) then x3 else false)))))
variable{v9:Ac}
theorem Zn(h:J3 v9=some v3):sP 183 [(.agg (Bm v9))] [] (.bool v3) []:=
 sG Tryz.func183 λΓ q=>Ak q [1] [1] (tB h λx1 y1 h=>tB h λx2 y2 h=>tB h λx3 y3 h=>tT q [2] [] [(Z6 x1),(Z6 x2),(Z6 x3)] (ci (S1 y1) (V4 (x1==true) (kA (λ(hg:(x1==true)=true)=>(T6 (Db hg y2))) (P5 x1) (V4 ((bif x1 then x2 else false)==true) (c2 (λ(hg:((bif x1 then x2 else false)==true)=true)=>(EQ (Db hg y3))) (P5 (bif x1 then x2 else false))))))) (tS h (Dm [])))
def Ep(a6:List Ac):Int->Option (LR Int (Unit ⊕ Bool)):=
 λ(i1:Int)=>(bif (decide (i1<(a6.length:Int))) then(Bh (Bl i1 a6.length) ((J3 (a6.getD i1.toNat default)).bind λx3=>(bif (!x3) then(some (.done (.inr false))) else(some (.next (Ay (i1+1))))))) else(some (.done (.inl ()))))
def Q9(Γ:G2)(a6:List Ac)(r:Bool):Exit->St->Prop:=fK Tryz.prog Γ Tryz.f182.results.toList [] (.bool r) []
def Fx(a6:List Ac):Option Bool:=
 ((Af (Ep a6) (0:Int)).bind (λx4=>(match x4 with|(.inl _)=>(some true)|(.inr r6)=>(some r6))))
variable{v10:List Ac}
theorem Q1(h:Fx v10=some v3):sP 182 [(RJ v10),(.clo 183 [] [])] [] (.bool v3) []:=
 sG Tryz.func182 λΓ q=>tW q Fc [] Je [] (tL q h Je [] (λu i1=>(Ek u [(9,(Z5 i1))] [])) (λu x_=>match x_ with|(.inl _)=>aG Γ (.exit 0) (⟨[],[],[]⟩:St)|(.inr r_)=>aR (Q9 Γ v10 r_)) (λi1 y h=>Ak q EH [] (gC h (λh=>tV q EI [6] h λh=>tB h λx3 y3 h=>tT q KA [] [(Z6 x3)] (c1 (Zn y3)) (gC h (λh=>Ak q [4] [] (tS h (gO (O8 (J1 [] (Le.refl _ _)))))) λh=>Ak q Je [] (tN h))) λh=>tS h (gO (C3 (Cw [] [] q))))) λx4 h=>(match x4,h with | .inl _,h=>gA (Ak q [4] [] (tS h (Dm []))) | .inr r6,h=>Uq (λst' hk=>tS h (gK hk))))
def sk(a2:Ab):=(decide ((a2.Blocks.length:Int)<1))
def rD(a2:Ab):=(decide ((16:Int)<(a2.Params.length:Int)))
def Su(a2:Ab):Option Bool:=
 (bif (bif (decide ((a2.Blocks.length:Int)<1)) then true else(decide ((64:Int)<(a2.Blocks.length:Int)))) then(some false) else((bif ((decide ((16:Int)<(a2.Params.length:Int)))==false) then Ez a2 else some (0:Int)).bind λx1=>(bif (bif (decide ((16:Int)<(a2.Params.length:Int))) then true else(decide ((512:Int)<x1))) then(some false) else((C4 a2.Params).bind λx2=>((bif (x2==true) then C4 ([a2.Ret]:Au) else some false).bind λx3=>((bif ((bif x2 then x3 else false)==true) then Fx a2.Blocks else some false).bind λx4=>(some (bif (bif x2 then x3 else false) then x4 else false))))))))
theorem UA(h:Su v0=some v3):sP 130 [(Yp v0)] [] (.bool v3) []:=
 sG Tryz.func130 λΓ q=>Ak q [1] [1] (tU q [1,12] [1] (dK ((sk v0)==false) (c1 (FM (sk v0)))) (gC h (λh=>Ak q [2] [] (tS h (Dm []))) λh=>tB h λx1 y1 h=>tT q [1,21] [1] [(fH x1)] (c4 (gI ((rD v0)==false)) (λ(hg:((rD v0)==false)=true)=>(Mt (Db hg y1))) (gI ((rD v0)==false)) (FM (rD v0))) (gC h (λh=>Ak q [2] [] (tS h (Dm []))) λh=>tB h λx2 y2 h=>tB h λx3 y3 h=>tB h λx4 y4 h=>gR q [2] [] [(28,(np v0.Ret))] [(Z6 x2),(Z6 x3),(Z6 x4)] (ci (Fg y2) (V4 (x2==true) (tO (show((x2==true)=true->(AVle (.slice 1 1 (λi=>([[(Z5 v0.Ret)]]:List (List AV)).getD i []) .exact) (np v0.Ret))) from(λhg=>@(Bx 1 Aq (0:Int) ([v0.Ret]:Au)))) (gI (x2==true)) (λ(hg:(x2==true)=true)=>(Fg (Db hg y3))) (P5 x2) (V4 ((bif x2 then x3 else false)==true) (c2 (λ(hg:((bif x2 then x3 else false)==true)=true)=>(Q1 (Db hg y4))) (P5 (bif x2 then x3 else false))))))) (tS h (Dm [])))))
def Jm(aaD:Bool)(aH:Int):Option Int:=
 (bif aaD then(some (0:Int)) else(some aH))
variable{v11:Int}
theorem Tf(h:Jm v3 v1=some v11):sP 150 [(.bool v3),(Z5 v1)] [] (.int .i64 v11) []:=
 sG Tryz.func150 λΓ q=>tW q Fc [] [1,5] [] (gC h (λh=>Ak q [4] [] (tS h (Dm []))) λh=>Ak q [4] [] (tS h (Dm [])))
abbrev eC:=(Int×Ab×Int×Au×List A6)
def Ha(a0:Ab)(a4:Int)(a5:Au)(a7:List A6):Option eC:=
 ((Su a0).bind λx1=>((Jm x1 (4:Int)).bind λx2=>(some (x2,a0,a4,a5,a7))))
variable{v12:List A6}{v13:eC}
theorem T4(h:Ha v0 v1 v2 v12=some v13):sP 104 fM (Z3 v0.Params v0.Ret v0.Blocks v1 v2 v12 v12.length) (Z5 v13.1) (Z3 v13.2.1.Params v13.2.1.Ret v13.2.1.Blocks v13.2.2.1 v13.2.2.2.1 v13.2.2.2.2 v13.2.2.2.2.length):=
 sG Tryz.func104 λΓ q=>Ak q [0] F7 (tB h λx1 y1 h=>tB h λx2 y2 h=>tT q [2] F7 [(Z6 x1),(fH x2)] (c2 (UA y1) (Tf y2)) (tS h (Dm EX)))
def Im(aI:Int):Option Bool:=
 (some (bif (decide ((1:Int)<=aI)) then(decide (aI<=64)) else false))
theorem Ro(h:Im v1=some v3):sP 135 [(Z5 v1)] [] (.bool v3) []:=
 sG Tryz.func135 λΓ q=>Ak q [0] [] (tU q [2] [] (c2 (gI ((decide ((1:Int)<=v1))==true)) (P5 (decide ((1:Int)<=v1)))) (tS h (Dm [])))
def G7(aJ:Int)(aI:Int):Option Bool:=
 (some (bif (decide ((0:Int)<=aJ)) then(decide (aJ<aI)) else false))
theorem Nd(h:G7 v1 v11=some v3):sP 188 [(Z5 v1),(Z5 v11)] [] (.bool v3) []:=
 sG Tryz.func188 λΓ q=>Ak q Fc [] (tU q [4] [] (V4 ((decide ((0:Int)<=v1))==true) (c1 (P5 (decide ((0:Int)<=v1))))) (tS h (Dm [])))
def Ea(aH:F4)(aI:Int):Int->Option (LR Int (Unit ⊕ Bool)):=
 λ(i7:Int)=>(bif (decide (i7<(aH.To.length:Int))) then(Bh (Bl i7 aH.To.length) ((bif (((aH.To.getD i7.toNat 0)==0)==false) then G7 (aH.To.getD i7.toNat 0) aI else some false).bind λx9=>(bif (bif ((aH.To.getD i7.toNat 0)==0) then true else(!x9)) then(some (.done (.inr false))) else(some (.next (Ay (i7+1))))))) else(some (.done (.inl ()))))
def S9(Γ:G2)(aH:F4)(aI:Int)(r:Bool):Exit->St->Prop:=fK Tryz.prog Γ Tryz.f136.results.toList [] (.bool r) []
def rE(aH:F4)(i7:Int):=((aH.To.getD i7.toNat 0)==0)
def K2(aH:F4)(aI:Int):Option Bool:=
 (Option.bind (α:=(Int ⊕ Bool)) (Option.bind (α:=Bool) (bif (aH.Kind==0) then(some (aH.Kind==0)) else(some (aH.Kind==3))) (λx3=>(bif x3 then(some (.inl (0:Int))) else(bif (aH.Kind==1) then(some (.inl (1:Int))) else(bif (aH.Kind==2) then(some (.inl (2:Int))) else(some (.inr false))))))) (λx5=>(match x5 with|(.inl i1)=>(bif ((aH.To.length:Int)!=i1) then(some false) else((Af (Ea aH aI) (0:Int)).bind (λx10=>(match x10 with|(.inl _)=>(some true)|(.inr r12)=>(some r12)))))|(.inr r13)=>(some r13))))
theorem BQ(h:K2 v8 v1=some v3):sP 136 [(.agg (gi v8)),(Z5 v1)] [] (.bool v3) []:=
 sG Tryz.func136 λΓ q=>tW q Fd [2] CO [2] (tB h λx5 y5 h=>gJ y5 (λx_=>match x_ with|(.inl i1)=>aG Γ .normal (⟨[(1,(Z5 v1)),LP,(5,(Z5 i1))],[(2,.row 62 [(Z5 v8.Kind),(Z5 v8.Arg),(L8 v8.To)])],[]⟩:St)|(.inr r_)=>aR (S9 Γ v8 v1 r_)) (λy h=>Ak q [1,2,5,9] [2] (tB h λx3 y3 h=>gJ y3 (λb2=>aG Γ .normal (⟨[(1,(Z5 v1)),LP,(5,Kk),(9,(Z5 v8.Kind)),(10,(.bool b2))],[(2,.row 62 [(Z5 v8.Kind),(Z5 v8.Arg),(L8 v8.To)])],[]⟩:St)) (λy h=>Ak q [1,2,5,9,10] [2] (gC h (λh=>tS h (gK (C3 Mf))) λh=>Ak q [1,2,5,9,10] [2] (tS h (gK (C3 Mf))))) (gA (gC h (λh=>tS h (gK (C3 (Cw CO [2] q)))) λh=>Ak q [1,2,9,13] [2] (gC h (λh=>Ak q CO [2] (tS h (gK (C3 Mf)))) λh=>Ak q [1,2,15] [2] (gC h (λh=>Ak q CO [2] (tS h (gK (C3 Mf)))) λh=>Ak q [4] [] (tS h (gK (O8 (J1 [] (Le.refl _ _))))))))))) (match x5,h with | .inl i1,h=>gA (Ak q [1,2,21] [2] (gC h (λh=>Ak q [4] [] (tS h (Dm []))) λh=>Ak q ZW [] (tL q h ZW [] (λu i7=>(Ek u [(25,(Z5 i7))] [])) (λu x_=>match x_ with|(.inl _)=>aG Γ (.exit 1) (⟨[],[],[]⟩:St)|(.inr r_)=>aR (S9 Γ v8 v1 r_)) (λi7 y h=>Ak q [1,23,24,25,26] [] (gC h (λh=>tV q [1,7,23,24,25] [] h λh=>tB h λx9 y9 h=>tT q [1,23,24,25,36] [] [(Z6 x9)] (V4 ((rE v8 i7)==false) (c3 (λ(hg:((rE v8 i7)==false)=true)=>(Nd (Db hg y9))) (gI ((rE v8 i7)==false)) (FM (rE v8 i7)))) (gC h (λh=>Ak q [4] [] (tS h (gO (O8 (J1 [] (Le.refl _ _)))))) λh=>Ak q ZW [] (tN h))) λh=>tS h (gO (C3 (Cw [] [] q))))) λx10 h=>(match x10,h with | .inl _,h=>gA (Ak q [4] [] (tS h (Dm []))) | .inr r12,h=>Uq (λst' hk=>tS h (gK hk)))))) | .inr r13,h=>Uq (λst' hk=>tS h (gK hk))))
abbrev pJ:=(Int×Pu)
def I8(a9:Pu)(i2:Int):pJ->Option (LR (Int×Pu) Pu):=
 λ((i6,l7):pJ)=>(bif (decide (i6<((a9.getD i2.toNat []).length:Int))) then(Bh (Bl i6 (a9.getD i2.toNat []).length) (Bh (Bl ((a9.getD i2.toNat []).getD i6.toNat 0) l7.length) (Bh (Bl ((a9.getD i2.toNat []).getD i6.toNat 0) l7.length) (Bh ((l7.getD ((a9.getD i2.toNat []).getD i6.toNat 0).toNat []).length+([i2]:Au).length<=room) (Bh (Bl ((a9.getD i2.toNat []).getD i6.toNat 0) l7.length) (some (.next ((Ay (i6+1)),(l7.set ((a9.getD i2.toNat []).getD i6.toNat 0).toNat ((l7.getD ((a9.getD i2.toNat []).getD i6.toNat 0).toNat [])++([i2]:Au))))))))))) else(some (.done l7)))
def He(a9:Pu):pJ->Option (LR (Int×Pu) Pu):=
 λ((i2,l3):pJ)=>(bif (decide (i2<(a9.length:Int))) then(Bh (Bl i2 a9.length) ((Af (I8 a9 i2) ((0:Int),l3)).bind (λx14=>(some (.next ((Ay (i2+1)),x14)))))) else(some (.done l3)))
def kJ(i2:Int):=([i2]:Au)
def eF(a9:Pu)(i2:Int)(i6:Int):=((a9.getD i2.toNat []).getD i6.toNat 0)
def eX(l7:Pu)(a9:Pu)(i2:Int)(i6:Int):=(l7.getD (eF a9 i2 i6).toNat [])
def nN(a9:Pu):=(List.replicate (a9.length:Int).toNat ([]:Au))
def pR(l7:Pu)(a9:Pu)(i2:Int)(i6:Int):=(l7.set (eF a9 i2 i6).toNat ((eX l7 a9 i2 i6)++(kJ i2)))
def ri(a9:Pu):List eO:=[(0,(RK a9)),(3,(.vsl 10 (a9.length:Int).toNat))]
def sl(l7:Pu)(i2:Int)(a9:Pu)(i6:Int):List eO:=[(3,(.vsl 10 l7.length)),(4,(Z5 i2)),(11,(RK a9)),(RL 12 a9.length),(13,(Z5 i2)),(18,(AV.list 1 Aq 0 (a9.getD i2.toNat []) .none)),(19,(.int .i64 ((a9.getD i2.toNat []).length:Int))),(20,(Z5 i6))]
def sn(l7:Pu)(i2:Int)(a9:Pu)(i6:Int):List eO:=[(3,(.vsl 10 l7.length)),(4,(Z5 i2)),(7,(Z5 (eF a9 i2 i6))),(11,(RK a9)),(RL 12 a9.length),(13,(Z5 i2)),(18,(AV.list 1 Aq 0 (a9.getD i2.toNat []) .none)),(19,(.int .i64 ((a9.getD i2.toNat []).length:Int))),(20,(Z5 i6))]
def Jp(a9:Pu):Option Pu:=
 (Bh (0<=(a9.length:Int)/\(a9.length:Int)<=(a9.length:Int)/\(a9.length:Int)<=(room:Int)) ((Af (He a9) ((0:Int),(List.replicate (a9.length:Int).toNat ([]:Au)))).bind (λx16=>(some x16))))
variable{v14:Pu}{v15:Pu}
theorem Th(h:Jp v14=some v15):sP 138 [(RK v14)] [] (AV.list 1 I6 [] v15 (.own 20000)) [(20000,.tok 1 22 v15.length)]:=
 sG Tryz.func138 λΓ q=>have hΓ:=q.own;gR q [0] [] [(2,(AV.list 1 I6 [] ([]:Pu) .exact))] [] (c1 (Dp 1 I6 [])) (tV q Qq [10] h λh=>Td (⟨(ri v14),[(10,.arr 1 22 ((v14.length:Int).toNat) (λi_=>AV.eraseAll (λn_=>Bw n_ [10]) ((λ_=>[Ws]) i_)))],[]⟩:St) (gLe (Le.trans (Re (st':=⟨(ri v14),[(10,.arr 1 22 ((v14.length:Int).toNat) (Of 1 Aq (0:Int) (nN v14) (λ_=>.exact)))],[]⟩) (TmpsLe.refl _) (.arr gp .nil)) (Le.trans (Le.trans (iF (r:=10) (b:=70010) Aq (0:Int) (nN v14) 3 rfl rfl (N7 ..).symm (λh_=>absurd h_ (by decide))) (I7 (st':=⟨(ri v14),[(10,.arr 1 22 ((v14.length:Int).toNat) (Of 1 Aq (0:Int) (nN v14) (Tag.fam 70010)))],[(70010,⟨1,3,Ou (nN v14)⟩)]⟩) (by kernel_rfl))) (I7 (Bi (λk_:Nat=>(⟨[(0,(RK v14)),(3,(.vsl 10 k_))],(kX k_ (nN v14)),[(70010,⟨1,3,Ou (nN v14)⟩)]⟩:St)) (show(v14.length:Int).toNat=(nN v14).length from(N7 ..).symm))))) (Ak q WA Qp (tL q h WA Qp (λu (i2,l3)=>(Ek u [(3,(.vsl 10 l3.length)),(13,(Z5 i2))] (kX l3.length l3) [(70010,⟨1,3,Ou l3⟩)])) (λu l4=>aG Γ (.exit 0) (⟨[(3,(.vsl 10 l4.length))],(kX l4.length l4),[(70010,⟨1,3,Ou l4⟩)]⟩:St)) (λ⟨i2,l3⟩ y h=>Ak q [3,11,12,13,14] Qp (gC h (λh=>tV q [3,4,5,11,12,13] Qp h λh=>Ak q cN Qp (tL q h cN Qp (λu (i6,l7)=>(Ek u [(3,(.vsl 10 l7.length)),(20,(Z5 i6))] (kX l7.length l7) [(70010,⟨1,3,Ou l7⟩)])) (λu l8=>aG Γ (.exit 2) (T9 WA Qp u [(3,(.vsl 10 l8.length))] (kX l8.length l8) [(70010,⟨1,3,Ou l8⟩)])) (λ⟨i6,l7⟩ y h=>Ak q [3,4,11,12,13,18,19,20,21] Qp (gC h (λh=>tV q [3,4,7,11,12,13,18,19,20] Qp h λh=>Td (⟨(sn l7 i2 v14 i6),(kX l7.length l7),[(70010,⟨1,3,Ou l7⟩)]⟩:St) (tC h λc10_ h=>tC h λc11_ h=>tC h λc12_ h=>tC h λc13_ h=>gLe (Le.trans (lX (r:=10) (b:=70010) (k:=60010) Aq (0:Int) l7 (eF v14 i2 i6).toNat 3 rfl rfl rfl rfl (P6 c10_) (by kernel_rfl) (.here .nil)) (I7 (st':=⟨(sn l7 i2 v14 i6),[(10,.arr 1 22 l7.length (Of 1 Aq (0:Int) l7 (F9 70010 (eF v14 i2 i6).toNat 60010))),(60010,.tok 1 3 ((eX l7 v14 i2 i6).length))],[(70010,⟨1,3,Y8 l7 (eF v14 i2 i6).toNat⟩)]⟩) (by kernel_rfl))) (gR q cN [10,60010,70010] [(29,(Wm (eX l7 v14 i2 i6) 60010)),(31,(AV.list 1 Aq 0 (kJ i2) .exact)),(32,(AV.list 1 Aq 0 ((eX l7 v14 i2 i6)++(kJ i2)) (.own 60010)))] [] (sZ c11_ (Eq.refl l7.length) (show(AVle (((Of 1 Aq (0:Int) l7 (F9 70010 (eF v14 i2 i6).toNat 60010)) (eF v14 i2 i6).toNat).getD 0 .any) (Wm (eX l7 v14 i2 i6) 60010)) from cm) (Bx 1 Aq (0:Int) (kJ i2)) (Eq.refl ((eX l7 v14 i2 i6).length)) c12_ (Ot 1 60010 Aq (0:Int) (eX l7 v14 i2 i6) (kJ i2)) (G9 (eX l7 v14 i2 i6) (kJ i2)) c13_ (c1 (Eq.refl l7.length))) (Td (⟨(sl l7 i2 v14 i6),[(10,.arr 1 22 l7.length (λi_=>AV.eraseAll (λn_=>Bw n_ [10,60010,70010]) ((J7 (Of 1 Aq (0:Int) l7 (F9 70010 (eF v14 i2 i6).toNat 60010)) (eF v14 i2 i6).toNat 0 [(AV.list 1 Aq 0 ((eX l7 v14 i2 i6)++(kJ i2)) (.own 60010))]) i_))),(60010,.tok 1 3 (((eX l7 v14 i2 i6)++(kJ i2)).length))],[(70010,⟨1,3,Y8 l7 (eF v14 i2 i6).toNat⟩)]⟩:St) (gLe (Le.trans (Le.trans (oQ (r:=10) (b:=70010) (k:=60010) Aq (0:Int) l7 (eF v14 i2 i6).toNat ((eX l7 v14 i2 i6)++(kJ i2)) 3 rfl (ig (P6 c10_) rfl rfl) rfl rfl rfl rfl (P6 c10_) (by kernel_rfl) (.here (.tok .nil)) (by rw[hΓ];rfl)) (I7 (st':=⟨(sl l7 i2 v14 i6),(kX l7.length (pR l7 v14 i2 i6)),[(70010,⟨1,3,Ou (pR l7 v14 i2 i6)⟩)]⟩) (by kernel_rfl))) (I7 (Bi (λk_:Nat=>(⟨[(3,(.vsl 10 k_)),(4,(Z5 i2)),(11,(RK v14)),(RL 12 v14.length),(13,(Z5 i2)),(18,(AV.list 1 Aq 0 (v14.getD i2.toNat []) .none)),(19,(.int .i64 ((v14.getD i2.toNat []).length:Int))),(20,(Z5 i6))],(kX k_ (pR l7 v14 i2 i6)),[(70010,⟨1,3,Ou (pR l7 v14 i2 i6)⟩)]⟩:St)) (show l7.length=(pR l7 v14 i2 i6).length from(D8 ..).symm)))) (Ak q cN Qp (tN h))))))) λh=>tS h (gO (C3 (Cw WA Qp q))))) λx14 h=>gA (Ak q WA Qp (tN h)))) λh=>tS h (gO (C3 (Cw [3] Qp q))))) λx16 h=>gA (Ak q [2] Qp (Td (⟨[(2,(.vsl 10 x16.length))],(kX x16.length x16),[(70010,⟨1,3,Ou x16⟩)]⟩:St) (tS h (gK (e:=.ret) (J1 [(10,20000)] (Le.trans (le_freeze (nm:=10) (sz:=1) (n:=x16.length) (e:=22) (f:=(Of 1 Aq (0:Int) x16 (Tag.fam 70010))) (g:=(λi=>I6 (x16.getD i []))) rfl ⟨rfl,trivial⟩ (λ_ _=>rfl) (by rw[hΓ];rfl)) (Cw (st':=⟨[(2,(AV.list 1 I6 [] x16 (.own 10)))],[(10,.tok 1 22 x16.length)],[]⟩) [2] [10] q)))))))))))
def Fk(a2:Ab):pJ->Option (LR (Int×Pu) (Pu ⊕ (C8×Int))):=
 λ((i3,l4):pJ)=>(bif (decide (i3<(a2.Blocks.length:Int))) then(Bh (Bl i3 a2.Blocks.length) ((K2 (⟨(a2.Blocks.getD i3.toNat default).End.Kind,(a2.Blocks.getD i3.toNat default).End.Arg,(a2.Blocks.getD i3.toNat default).End.To⟩:F4) (a2.Blocks.length:Int)).bind λx7=>(bif (!x7) then(some (.done (.inr ((⟨([]:Pu),([]:Pu)⟩:C8),(5:Int))))) else((Zx ((a2.Blocks.getD i3.toNat default).End.To)).bind λx8=>(Bh (Bl i3 l4.length) (some (.next ((Ay (i3+1)),(l4.set i3.toNat x8))))))))) else(some (.done (.inl l4))))
abbrev pK:=(C8×Int)
def WN(Γ:G2)(a2:Ab)(r:pK):Exit->St->Prop:=fK Tryz.prog Γ Tryz.f82.results.toList [] (.tuple [(.agg (P4 r.1)),(Z5 r.2)]) []
def kK:AV:=Ws
def o6:List eO:=[LP,(3,(.int .i64 (5:Int)))]
def tI(a2:Ab)(i3:Int):=(a2.Blocks.getD i3.toNat default)
def rF:AV:=(AV.list 1 I6 [] ([]:Pu) .none)
def rj(a2:Ab):=(List.replicate (a2.Blocks.length:Int).toNat ([]:Au))
def mc:List AV:=[(AV.list 1 I6 [] ([]:Pu) .exact),(AV.list 1 I6 [] ([]:Pu) .exact)]
def Pd(a2:Ab):Option pK:=
 ((Im (a2.Blocks.length:Int)).bind λx1=>(bif (!x1) then(some ((⟨([]:Pu),([]:Pu)⟩:C8),(5:Int))) else(Bh (0<=(a2.Blocks.length:Int)/\(a2.Blocks.length:Int)<=(a2.Blocks.length:Int)/\(a2.Blocks.length:Int)<=(room:Int)) ((Af (Fk a2) ((0:Int),(List.replicate (a2.Blocks.length:Int).toNat ([]:Au)))).bind (λx10=>(match x10 with|(.inl l5)=>((Jp l5).bind λx12=>(some ((⟨l5,x12⟩:C8),(0:Int))))|(.inr r13)=>(some r13)))))))
variable{v16:pK}
theorem DL(h:Pd v0=some v16):sP 82 [(Yp v0)] [] (.tuple [(.agg (P4 v16.1)),(Z5 v16.2)]) []:=
 sG Tryz.func82 λΓ q=>have hΓ:=q.own;tW q Fd Fd [1,2,4] Fd (tB h λx1 y1 h=>tT q [1,2,4,13] Fd [(Z6 x1)] (c1 (Ro y1)) (gC h (λh=>gR q R8 [2] [(14,(.agg mc))] [] (c1 (show(AVle (.agg [kK,kK]) (.agg mc)) from(AVle.agg (.cons Fe (.cons Fe .nil))))) (Td (⟨o6,[(RM mc)],[]⟩:St) (tS h (gK (e:=.ret) (J1 [] (show Le Γ _ (⟨o6,[(2,.row 56 [rF,rF])],[]⟩:St) from Le.trans (Cw (st':=⟨o6,[(RM mc)],[]⟩) R8 [2] q) (Re (.cons (AVle.refl _) (.cons (AVle.refl _) .nil)) (.row (.cons AVle.untag (.cons AVle.untag .nil)) .nil)))))))) λh=>tV q [1,2,4,5] [1,2,16] h λh=>by exact gLe (Le.trans (Qt 16 (show ∀ k_,k_<((v0.Blocks.length:Int).toNat)->AVleL ((λi_=>AV.eraseAll (λn_=>Bw n_ [1,2,16]) ((λ_=>[kK]) i_)) k_) ((λi=>I6 ((rj v0).getD i [])) k_) from(λk hk=>Nn (e:=I6) (d:=[]) (.cons (λ_ _ _ _ _ hh=>AVle.untag _ _ _ _ _ (Fe _ _ _ _ _ hh)) .nil) _ k (Nq hk)))) (Pv (λ(k_:Nat) u=>(Ek u [(KL 16 k_)] [(16,.arr 1 22 k_ (λi=>I6 ((rj v0).getD i [])))])) (show(v0.Blocks.length:Int).toNat=(rj v0).length from(N7 ..).symm))) (Ak q cU Q5 (tL q h cU Q5 (λu (i3,l4)=>(Ek u [(KL 16 l4.length),(20,(Z5 i3))] [(16,.arr 1 22 l4.length (λi=>I6 (l4.getD i [])))])) (λu x_=>match x_ with|(.inl l5)=>aG Γ (.exit 0) (T9 [2,5] Q5 u [(KL 16 l5.length)] [(16,.arr 1 22 l5.length (λi=>I6 (l5.getD i [])))])|(.inr r_)=>aR (WN Γ v0 r_)) (λ⟨i3,l4⟩ y h=>Ak q [2,4,5,18,19,20,21] Q5 (gC h (λh=>tV q [2,4,5,6,7,18,19,20] [2,7,16] h λh=>tB h λx7 y7 h=>tT q [2,4,5,6,7,18,19,20,29] [2,7,16] [(Z6 x7)] (c1 (BQ y7)) (gC h (λh=>gR q R8 [2] [(30,(.agg mc))] [] (c1 (show(AVle (.agg [kK,kK]) (.agg mc)) from(AVle.agg (.cons Fe (.cons Fe .nil))))) (Td (⟨o6,[(RM mc)],[]⟩:St) (tS h (gO (O8 (J1 [] (show Le Γ _ (⟨o6,[(2,.row 56 [rF,rF])],[]⟩:St) from Le.trans (Cw (st':=⟨o6,[(RM mc)],[]⟩) R8 [2] q) (Re (.cons (AVle.refl _) (.cons (AVle.refl _) .nil)) (.row (.cons AVle.untag (.cons AVle.untag .nil)) .nil))))))))) λh=>tB h λx8 y8 h=>tC h λc9_ h=>tT q cU Q5 [⟨[],[],(L8 x8),[],[],[]⟩] (c3 (ZN ((tI v0 i3).End.To) x8 y8) c9_ (Eq.refl l4.length)) (gLe (Le.trans (Qt 16 (show ∀ k_,k_<l4.length->AVleL ((λi_=>AV.eraseAll (λn_=>Bw n_ Q5) ((J7 (λi=>I6 (l4.getD i [])) i3.toNat 0 [(L8 x8)]) i_)) k_) ((λi=>I6 ((l4.set i3.toNat x8).getD i [])) k_) from(Bn (D8 ..).symm (λk_ hk_=>(Bi (AV.eraseAll (λn_=>Bw n_ Q5)) ((Gs (λ_ _=>rfl) (Ig c9_) rfl) k_ hk_)).trans rfl)))) (Pv (λ(k_:Nat) u=>(Ek u [(KL 16 k_)] [(16,.arr 1 22 k_ (λi=>I6 ((l4.set i3.toNat x8).getD i [])))])) (show l4.length=(l4.set i3.toNat x8).length from(D8 ..).symm))) (Ak q cU Q5 (tN h))))) λh=>tS h (gO (C3 (Cw [2,5] Q5 q))))) λx10 h=>(match x10,h with | .inl l5,h=>gA (Td (⟨[LP,(KL 16 l5.length)],[(2,.row 56 [kK,kK]),(16,.arr 1 22 l5.length (λi=>I6 (l5.getD i [])))],[]⟩:St) (gLe (Le.trans (le_freeze (nm:=16) (sz:=1) (n:=l5.length) (e:=22) (f:=(λi=>I6 (l5.getD i []))) (g:=(λi=>I6 (l5.getD i []))) rfl ⟨rfl,trivial⟩ (λ_ _=>rfl) (by rw[hΓ];rfl)) (I7 (st':=⟨[LP,(5,(AV.list 1 I6 [] l5 (.own 16)))],[(2,.row 56 [kK,kK]),(16,.tok 1 22 l5.length)],[]⟩) (by kernel_rfl))) (tB h λx12 y12 h=>tT q R8 [2,16,41] [⟨[],[(20000,41)],(AV.list 1 I6 [] x12 (.own 20000)),[(20000,.tok 1 22 x12.length)],[],[]⟩] (c1 (Th y12)) (tS h (Dm []))))) | .inr r13,h=>Uq (λst' hk=>tS h (gK hk)))))))
def Ff(a9:Pu)(i2:Int):Gu->Option (LR (Int×Int) (Unit ⊕ Bool)):=
 λ((i4,i5):Gu)=>(bif (decide (i5<((a9.getD i2.toNat []).length:Int))) then(Bh (Bl i5 (a9.getD i2.toNat []).length) ((bif ((decide (((a9.getD i2.toNat []).getD i5.toNat 0)<=i4))==false) then G7 ((a9.getD i2.toNat []).getD i5.toNat 0) (a9.length:Int) else some false).bind λx7=>(bif (bif (decide (((a9.getD i2.toNat []).getD i5.toNat 0)<=i4)) then true else(!x7)) then(some (.done (.inr false))) else(some (.next (((a9.getD i2.toNat []).getD i5.toNat 0),(Ay (i5+1)))))))) else(some (.done (.inl ()))))
def Cu(a9:Pu):Int->Option (LR Int (Unit ⊕ Bool)):=
 λ(i2:Int)=>(bif (decide (i2<(a9.length:Int))) then(Bh (Bl i2 a9.length) ((Af (Ff a9 i2) ((-1:Int),(0:Int))).bind (λx8=>(match x8 with|(.inl _)=>(some (.next (Ay (i2+1))))|(.inr r10)=>(some (.done (.inr r10))))))) else(some (.done (.inl ()))))
def Ta(Γ:G2)(a9:Pu)(r:Bool):Exit->St->Prop:=fK Tryz.prog Γ Tryz.f238.results.toList [] (.bool r) []
def rG(a9:Pu)(i2:Int)(i5:Int)(i4:Int):=(decide (((a9.getD i2.toNat []).getD i5.toNat 0)<=i4))
def K3(a9:Pu):Option Bool:=
 ((Im (a9.length:Int)).bind λx1=>(bif (!x1) then(some false) else((Af (Cu a9) (0:Int)).bind (λx11=>(match x11 with|(.inl _)=>(some true)|(.inr r13)=>(some r13))))))
theorem BR(h:K3 v14=some v3):sP 238 [(RK v14)] [] (.bool v3) []:=
 sG Tryz.func238 λΓ q=>Ak q [0] [] (tB h λx1 y1 h=>tT q [0,11] [] [(Z6 x1)] (c1 (Ro y1)) (gC h (λh=>Ak q [2] [] (tS h (Dm []))) λh=>Ak q WB [] (tL q h WB [] (λu i2=>(Ek u [(14,(Z5 i2))] [])) (λu x_=>match x_ with|(.inl _)=>aG Γ (.exit 0) (⟨[],[],[]⟩:St)|(.inr r_)=>aR (Ta Γ v14 r_)) (λi2 y h=>Ak q [0,12,13,14,15] [] (gC h (λh=>tV q [0,4,12,13,14] [] h λh=>tW q [0,4,5,12,13,14] [] cO [] (tL q h cO [] (λu (i4,i5)=>(Ek u [(5,(Z5 i4)),(20,(Z5 i5))] [])) (λu x_=>match x_ with|(.inl _)=>aG Γ (.exit 2) (T9 WB [] u [] [])|(.inr r_)=>aR (Ta Γ v14 r_)) (λ⟨i4,i5⟩ y h=>Ak q [0,5,12,13,14,18,19,20,21] [] (gC h (λh=>tV q [0,5,7,12,13,14,18,19,20] [] h λh=>tB h λx7 y7 h=>tT q [0,7,12,13,14,18,19,20,33] [] [(Z6 x7)] (dK ((rG v14 i2 i5 i4)==false) (c3 (λ(hg:((rG v14 i2 i5 i4)==false)=true)=>(Nd (Db hg y7))) (gI ((rG v14 i2 i5 i4)==false)) (FM (rG v14 i2 i5 i4)))) (gC h (λh=>Ak q [2] [] (tS h (gO (O8 (J1 [] (Le.refl _ _)))))) λh=>tW q cO [] cO [] (tN h))) λh=>tS h (gO (C3 (Cw WB [] q))))) λx8 h=>(match x8,h with | .inl _,h=>gA (Ak q WB [] (tN h)) | .inr r10,h=>Uq (λst' hk=>tS h (gO (O8 hk)))))) λh=>tS h (gO (C3 (Cw [] [] q))))) λx11 h=>(match x11,h with | .inl _,h=>gA (Ak q [2] [] (tS h (Dm []))) | .inr r13,h=>Uq (λst' hk=>tS h (gK hk))))))
def Ds(aW:Au)(aY:Au):Int->Option (LR Int (Unit ⊕ Bool)):=
 λ(i1:Int)=>(bif (decide (i1<(aW.length:Int))) then(Bh (Bl i1 aW.length) (Bh (Bl i1 aY.length) (bif ((aW.getD i1.toNat 0)!=(aY.getD i1.toNat 0)) then(some (.done (.inr false))) else(some (.next (Ay (i1+1))))))) else(some (.done (.inl ()))))
def Sb(Γ:G2)(aW:Au)(aY:Au)(r:Bool):Exit->St->Prop:=fK Tryz.prog Γ Tryz.f185.results.toList [] (.bool r) []
def Er(aW:Au)(aY:Au):Option Bool:=
 (bif ((aW.length:Int)!=(aY.length:Int)) then(some false) else((Af (Ds aW aY) (0:Int)).bind (λx4=>(match x4 with|(.inl _)=>(some true)|(.inr r6)=>(some r6)))))
variable{v17:Au}
theorem Lr(h:Er v2 v17=some v3):sP 185 [(L8 v2),(L8 v17)] [] (.bool v3) []:=
 sG Tryz.func185 λΓ q=>tW q Fc [] AH [] (gC h (λh=>Ak q [4] [] (tS h (Dm []))) λh=>Ak q ae [] (tL q h ae [] (λu i1=>(Ek u [(13,(Z5 i1))] [])) (λu x_=>match x_ with|(.inl _)=>aG Γ (.exit 0) (⟨[],[],[]⟩:St)|(.inr r_)=>aR (Sb Γ v2 v17 r_)) (λi1 y h=>Ak q [0,1,12,13,14] [] (gC h (λh=>Ak q [0,1,5,12,13] [] (tC h λc2_ h=>tC h λc3_ h=>tU q [0,1,12,13,24] [] (c2 c2_ c3_) (gC h (λh=>Ak q [4] [] (tS h (gO (O8 (J1 [] (Le.refl _ _)))))) λh=>Ak q ae [] (tN h)))) λh=>tS h (gO (C3 (Cw [] [] q))))) λx4 h=>(match x4,h with | .inl _,h=>gA (Ak q [4] [] (tS h (Dm []))) | .inr r6,h=>Uq (λst' hk=>tS h (gK hk)))))
def Bp(aW:Pu)(aY:Pu):Int->Option (LR Int (Unit ⊕ Bool)):=
 λ(i1:Int)=>(bif (decide (i1<(aW.length:Int))) then(Bh (Bl i1 aW.length) (Bh (Bl i1 aY.length) ((Er (aW.getD i1.toNat []) (aY.getD i1.toNat [])).bind λx4=>(bif (!x4) then(some (.done (.inr false))) else(some (.next (Ay (i1+1)))))))) else(some (.done (.inl ()))))
def K6(Γ:G2)(aW:Pu)(aY:Pu)(r:Bool):Exit->St->Prop:=fK Tryz.prog Γ Tryz.f239.results.toList [] (.bool r) []
def Cv(aW:Pu)(aY:Pu):Option Bool:=
 (bif ((aW.length:Int)!=(aY.length:Int)) then(some false) else((Af (Bp aW aY) (0:Int)).bind (λx5=>(match x5 with|(.inl _)=>(some true)|(.inr r7)=>(some r7)))))
theorem Kr(h:Cv v14 v15=some v3):sP 239 [(RK v14),(RK v15),(.clo 185 [] [])] [] (.bool v3) []:=
 sG Tryz.func239 λΓ q=>tW q [0,1,2] [] [0,1,2,14] [] (gC h (λh=>Ak q [6] [] (tS h (Dm []))) λh=>Ak q ZR [] (tL q h ZR [] (λu i1=>(Ek u [(17,(Z5 i1))] [])) (λu x_=>match x_ with|(.inl _)=>aG Γ (.exit 0) (⟨[],[],[]⟩:St)|(.inr r_)=>aR (K6 Γ v14 v15 r_)) (λi1 y h=>Ak q [1,2,15,16,17,18] [] (gC h (λh=>tV q [1,2,7,8,15,16,17] [] h λh=>tV q [1,2,8,9,15,16,17] [] h λh=>tB h λx4 y4 h=>tT q [1,2,15,16,17,30] [] [(Z6 x4)] (c1 (Lr y4)) (gC h (λh=>Ak q [6] [] (tS h (gO (O8 (J1 [] (Le.refl _ _)))))) λh=>Ak q ZR [] (tN h))) λh=>tS h (gO (C3 (Cw [] [] q))))) λx5 h=>(match x5,h with | .inl _,h=>gA (Ak q [6] [] (tS h (Dm []))) | .inr r7,h=>Uq (λst' hk=>tS h (gK hk)))))
def Qa(aC:C8):Option Bool:=
 ((K3 aC.Succ).bind λx1=>((bif (x1==true) then Jp aC.Succ else some []).bind λx2=>((bif (x1==true) then Cv aC.Pred x2 else some false).bind λx3=>(some (bif x1 then x3 else false)))))
variable{v18:C8}
theorem QA(h:Qa v18=some v3):sP 195 [(.agg (P4 v18))] [] (.bool v3) []:=
 sG Tryz.func195 λΓ q=>Ak q [1] [1] (tB h λx1 y1 h=>tB h λx2 y2 h=>tB h λx3 y3 h=>tT q [2] [] [(Z6 x1),⟨[],[],(RK x2),[],[],[]⟩,(Z6 x3)] (ci (BR y1) (dK (x1==true) (ci (show((x1==true)=true->(sP 138 [(RK v18.Succ)] [] (RK x2) [])) from(λhg=>(Spec.drop (Th (Db hg y2))))) (V4 (x1==true) (c2 (λ(hg:(x1==true)=true)=>(Kr (Db hg y3))) (P5 x1)))))) (tS h (Dm [])))
abbrev rf:=(Int×Int×Au)
def A9 :rf->Option (LR (Int×Int×Au) Au):=
 λ((i1,i2,l3):rf)=>(bif (decide (i1<i2)) then(Bh (Bl i2 l3.length) (Bh (Bl i1 l3.length) (Bh (Bl i1 l3.length) (Bh (Bl i2 l3.length) (some (.next ((Ay (i1+1)),(Ay (i2-1)),((l3.set i1.toNat (l3.getD i2.toNat 0)).set i2.toNat (l3.getD i1.toNat 0))))))))) else(some (.done l3)))
def rk(l3:Au)(i1:Int)(i2:Int):=((l3.set i1.toNat (l3.getD i2.toNat 0)).set i2.toNat (l3.getD i1.toNat 0))
def D6(aD:Au):Option Au:=
 ((Af (S:=rf) (X:=Au) A9 ((0:Int),(Ay ((aD.length:Int)-1)),aD)).bind (λx9=>(some x9)))
theorem Kc(h:D6 v2=some v17):sP 196 [(.vsl 34000 v2.length)] [(Z4 34000 v2)] (.tuple []) [(Z4 34000 v17)]:=
 sG Tryz.func196 λΓ q=>Ak q [0,2,3] [34000] (tL q h [0,2,3] [34000] (λu (i1,i2,l3)=>(Ek u [(eK l3.length),(2,(Z5 i1)),(3,(Z5 i2))] [(Z4 34000 l3)])) (λu l4=>aG Γ (.exit 0) (⟨[],[(Z4 34000 l4)],[]⟩:St)) (λ⟨i1,i2,l3⟩ y h=>Ak q [0,2,3,9] [34000] (gC h (λh=>tC h λc5_ h=>tC h λc6_ h=>tC h λc7_ h=>tC h λc8_ h=>tU q [0,2,3] [34000] (c8 c5_ (Eq.refl l3.length) c6_ (Eq.refl l3.length) c7_ (Eq.refl l3.length) c8_ (Eq.refl l3.length)) (gLe (Le.trans (Qt 34000 (show ∀ k_,k_<l3.length->AVleL ((λi_=>AV.eraseAll (λn_=>Bw n_ [34000]) ((J7 (J7 (λi=>Aq (l3.getD i 0)) i1.toNat 0 [(.int .i64 (l3.getD i2.toNat 0))]) i2.toNat 0 [(.int .i64 (l3.getD i1.toNat 0))]) i_)) k_) ((λi=>Aq ((rk l3 i1 i2).getD i 0)) k_) from(Bn (Eq.trans (D8 ..).symm (D8 ..).symm) (λk_ hk_=>(Bi (AV.eraseAll (λn_=>Bw n_ [34000])) ((Gs (Gs (λ_ _=>rfl) (Ig c7_) rfl) (lO c8_) rfl) k_ hk_)).trans rfl)))) (Pv (λ(k_:Nat) u=>(Ek u [(eK k_)] [(34000,.arr 1 3 k_ (λi=>Aq ((rk l3 i1 i2).getD i 0)))])) (show l3.length=(rk l3 i1 i2).length from(Eq.trans (D8 ..).symm (D8 ..).symm)))) (Ak q [0,2,3] [34000] (tN h)))) λh=>tS h (gO (C3 (Cw [] [34000] q))))) λx9 h=>my (λst' hl10=>tS h (gK (e:=.normal) (J1 VZ hl10))))
abbrev tG:=(LR Au (Au ⊕ (List Bool×Au×Au)))
def BD(aC:C8)(a1:Int):Au->Option tG:=
 λ(l9:Au)=>(Bh (Bl ([a1].getD (Ay (([a1].length:Int)-1)).toNat (0:Int)) 64) (Bh (Bl ([a1].getD (Ay (([a1].length:Int)-1)).toNat (0:Int)) aC.Succ.length) (bif (decide ((l9.getD ([a1].getD (Ay (([a1].length:Int)-1)).toNat (0:Int)).toNat (0:Int))<((aC.Succ.getD ([a1].getD (Ay (([a1].length:Int)-1)).toNat (0:Int)).toNat []).length:Int))) then(Bh (Bl ([a1].getD (Ay (([a1].length:Int)-1)).toNat (0:Int)) aC.Succ.length) (Bh (Bl ([a1].getD (Ay (([a1].length:Int)-1)).toNat (0:Int)) 64) (Bh (Bl (l9.getD ([a1].getD (Ay (([a1].length:Int)-1)).toNat (0:Int)).toNat (0:Int)) (aC.Succ.getD ([a1].getD (Ay (([a1].length:Int)-1)).toNat (0:Int)).toNat []).length) (Bh (Bl ([a1].getD (Ay (([a1].length:Int)-1)).toNat (0:Int)) 64) (Bh (Bl ([a1].getD (Ay (([a1].length:Int)-1)).toNat (0:Int)) 64) (Bh (Bl ((aC.Succ.getD ([a1].getD (Ay (([a1].length:Int)-1)).toNat (0:Int)).toNat []).getD (l9.getD ([a1].getD (Ay (([a1].length:Int)-1)).toNat (0:Int)).toNat (0:Int)).toNat (0:Int)) 64) (bif (!((L4 64 false (List.replicate 64 false) a1.toNat true).getD ((aC.Succ.getD ([a1].getD (Ay (([a1].length:Int)-1)).toNat (0:Int)).toNat []).getD (l9.getD ([a1].getD (Ay (([a1].length:Int)-1)).toNat (0:Int)).toNat (0:Int)).toNat (0:Int)).toNat false)) then(Bh (Bl ((aC.Succ.getD ([a1].getD (Ay (([a1].length:Int)-1)).toNat (0:Int)).toNat []).getD (l9.getD ([a1].getD (Ay (([a1].length:Int)-1)).toNat (0:Int)).toNat (0:Int)).toNat (0:Int)) 64) (Bh ([a1].length+([((aC.Succ.getD ([a1].getD (Ay (([a1].length:Int)-1)).toNat (0:Int)).toNat []).getD (l9.getD ([a1].getD (Ay (([a1].length:Int)-1)).toNat (0:Int)).toNat (0:Int)).toNat (0:Int))]:Au).length<=room) (some (.done (.inr ((L4 64 false (L4 64 false (List.replicate 64 false) a1.toNat true) ((aC.Succ.getD ([a1].getD (Ay (([a1].length:Int)-1)).toNat (0:Int)).toNat []).getD (l9.getD ([a1].getD (Ay (([a1].length:Int)-1)).toNat (0:Int)).toNat (0:Int)).toNat (0:Int)).toNat true),(L4 64 (0:Int) l9 ([a1].getD (Ay (([a1].length:Int)-1)).toNat (0:Int)).toNat (Ay ((l9.getD ([a1].getD (Ay (([a1].length:Int)-1)).toNat (0:Int)).toNat (0:Int))+1))),([a1]++([((aC.Succ.getD ([a1].getD (Ay (([a1].length:Int)-1)).toNat (0:Int)).toNat []).getD (l9.getD ([a1].getD (Ay (([a1].length:Int)-1)).toNat (0:Int)).toNat (0:Int)).toNat (0:Int))]:Au)))))))) else(some (.next (L4 64 (0:Int) l9 ([a1].getD (Ay (([a1].length:Int)-1)).toNat (0:Int)).toNat (Ay ((l9.getD ([a1].getD (Ay (([a1].length:Int)-1)).toNat (0:Int)).toNat (0:Int))+1)))))))))))) else(some (.done (.inl l9))))))
def Gi(aC:C8)(l1:List Bool)(l3:Au):Au->Option tG:=
 λ(l32:Au)=>(Bh (Bl (l3.getD (Ay ((l3.length:Int)-1)).toNat (0:Int)) 64) (Bh (Bl (l3.getD (Ay ((l3.length:Int)-1)).toNat (0:Int)) aC.Succ.length) (bif (decide ((l32.getD (l3.getD (Ay ((l3.length:Int)-1)).toNat (0:Int)).toNat (0:Int))<((aC.Succ.getD (l3.getD (Ay ((l3.length:Int)-1)).toNat (0:Int)).toNat []).length:Int))) then(Bh (Bl (l3.getD (Ay ((l3.length:Int)-1)).toNat (0:Int)) aC.Succ.length) (Bh (Bl (l3.getD (Ay ((l3.length:Int)-1)).toNat (0:Int)) 64) (Bh (Bl (l32.getD (l3.getD (Ay ((l3.length:Int)-1)).toNat (0:Int)).toNat (0:Int)) (aC.Succ.getD (l3.getD (Ay ((l3.length:Int)-1)).toNat (0:Int)).toNat []).length) (Bh (Bl (l3.getD (Ay ((l3.length:Int)-1)).toNat (0:Int)) 64) (Bh (Bl (l3.getD (Ay ((l3.length:Int)-1)).toNat (0:Int)) 64) (Bh (Bl ((aC.Succ.getD (l3.getD (Ay ((l3.length:Int)-1)).toNat (0:Int)).toNat []).getD (l32.getD (l3.getD (Ay ((l3.length:Int)-1)).toNat (0:Int)).toNat (0:Int)).toNat (0:Int)) 64) (bif (!(l1.getD ((aC.Succ.getD (l3.getD (Ay ((l3.length:Int)-1)).toNat (0:Int)).toNat []).getD (l32.getD (l3.getD (Ay ((l3.length:Int)-1)).toNat (0:Int)).toNat (0:Int)).toNat (0:Int)).toNat false)) then(Bh (Bl ((aC.Succ.getD (l3.getD (Ay ((l3.length:Int)-1)).toNat (0:Int)).toNat []).getD (l32.getD (l3.getD (Ay ((l3.length:Int)-1)).toNat (0:Int)).toNat (0:Int)).toNat (0:Int)) 64) (Bh (l3.length+([((aC.Succ.getD (l3.getD (Ay ((l3.length:Int)-1)).toNat (0:Int)).toNat []).getD (l32.getD (l3.getD (Ay ((l3.length:Int)-1)).toNat (0:Int)).toNat (0:Int)).toNat (0:Int))]:Au).length<=room) (some (.done (.inr ((L4 64 false l1 ((aC.Succ.getD (l3.getD (Ay ((l3.length:Int)-1)).toNat (0:Int)).toNat []).getD (l32.getD (l3.getD (Ay ((l3.length:Int)-1)).toNat (0:Int)).toNat (0:Int)).toNat (0:Int)).toNat true),(L4 64 (0:Int) l32 (l3.getD (Ay ((l3.length:Int)-1)).toNat (0:Int)).toNat (Ay ((l32.getD (l3.getD (Ay ((l3.length:Int)-1)).toNat (0:Int)).toNat (0:Int))+1))),(l3++([((aC.Succ.getD (l3.getD (Ay ((l3.length:Int)-1)).toNat (0:Int)).toNat []).getD (l32.getD (l3.getD (Ay ((l3.length:Int)-1)).toNat (0:Int)).toNat (0:Int)).toNat (0:Int))]:Au)))))))) else(some (.next (L4 64 (0:Int) l32 (l3.getD (Ay ((l3.length:Int)-1)).toNat (0:Int)).toNat (Ay ((l32.getD (l3.getD (Ay ((l3.length:Int)-1)).toNat (0:Int)).toNat (0:Int))+1)))))))))))) else(some (.done (.inl l32))))))
abbrev rA:=(List Bool×Au×Au×Au)
def Dq(aC:C8):rA->Option (LR (List Bool×Au×Au×Au) Au):=
 λ(s_:rA)=>match s_ with|(l1,l2,l3,l4)=>(Bh (Bl (Ay ((l3.length:Int)-1)) l3.length) ((Af (Gi aC l1 l3) l2).bind (λx47=>(match x47 with|(.inl l33)=>(Bh (l4.length+([(l3.getD (Ay ((l3.length:Int)-1)).toNat (0:Int))]:Au).length<=room) (Bh (0<=(Ay ((l3.length:Int)-1))/\0+(Ay ((l3.length:Int)-1)).toNat<=l3.length) (bif (decide ((0:Int)<((l3.take (Ay ((l3.length:Int)-1)).toNat).length:Int))) then(some (.next (l1,l33,(l3.take (Ay ((l3.length:Int)-1)).toNat),(l4++([(l3.getD (Ay ((l3.length:Int)-1)).toNat (0:Int))]:Au))))) else((D6 (l4++([(l3.getD (Ay ((l3.length:Int)-1)).toNat (0:Int))]:Au))).bind λx51=>(Bh ((l4++([(l3.getD (Ay ((l3.length:Int)-1)).toNat (0:Int))]:Au)).length=x51.length) (some (.done x51)))))))|(.inr (l34,l35,l36))=>(some (.next (l34,l35,l36,l4)))))))
def KG(Γ:G2)(aC:C8)(a1:Int)(r:Au):Exit->St->Prop:=fK Tryz.prog Γ Tryz.f151.results.toList [] (Wm r 20000) [(Wt 20000 r.length)]
def o9(l1:List Bool):=(λi=>eB (l1.getD i false))
def eG(l3:Au):=(l3.getD (Ay ((l3.length:Int)-1)).toNat (0:Int))
def er(l4:Au)(l3:Au):=(l4++([(eG l3)]:Au))
def pe(l10:Au):=(λi=>Aq (l10.getD i 0))
def pm(l33:Au):=(λi=>Aq (l33.getD i 0))
def WG:=(λn_=>Bw n_ [2,5,6,25,36007])
def nR(a1:Int):=(λi=>Aq ([a1].getD i 0))
def am(a1:Int):=([a1].getD (Ay (([a1].length:Int)-1)).toNat (0:Int))
def j7(a1:Int):=(([]:Au)++([(am a1)]:Au))
def pB(a1:Int):=(λi=>Aq ((j7 a1).getD i 0))
def pA(l4:Au)(l3:Au):=(λi=>Aq ((er l4 l3).getD i 0))
def o8:AV:=cj
def rH:=(λi=>Aq (([]:Au).getD i 0))
def nP(l3:Au):=(0+(Ay ((l3.length:Int)-1)).toNat)
def o7(a1:Int):=(0+(Ay (([a1].length:Int)-1)).toNat)
def rp(a1:Int):=([a1].take (Ay (([a1].length:Int)-1)).toNat)
def rl:=(λi=>Aq ((List.replicate 64 (0:Int)).getD i 0))
def eY(aC:C8):List AV:=[(RK aC.Succ),(RK aC.Pred)]
def md(a1:Int):=(λi=>eB ((L4 64 false (List.replicate 64 false) a1.toNat true).getD i false))
def j6(aC:C8)(l3:Au)(l32:Au):=((aC.Succ.getD (eG l3).toNat []).getD (l32.getD (eG l3).toNat (0:Int)).toNat (0:Int))
def j5(aC:C8)(a1:Int)(l9:Au):=((aC.Succ.getD (am a1).toNat []).getD (l9.getD (am a1).toNat (0:Int)).toNat (0:Int))
def sq:=(⟨[(4,(rU 6004))],[(6004,.tok 1 3 (([]:Au).length))],[]⟩:St)
def sr(a1:Int):List eO:=[LP,fJ,fI,(7,(.vsl 36007 (j7 a1).length)),(8,(.vsl 25 (o7 a1)))]
def so(a1:Int)(aC:C8):=(⟨[LP,fJ,fI,(7,(.vsl 36007 ([]:Au).length)),(8,(.vsl 25 [a1].length)),(9,(Z5 (am a1)))],[(RM (eY aC)),(fL (md a1)),(eJ rl),(25,.arr 1 3 ([a1].length) (nR a1)),(36007,.arr 1 3 (([]:Au).length) rH)],[]⟩:St)
def Hu(aC:C8)(a1:Int):Option Au:=
 ((Nj (S:=rA) (X:=Au) ((Qa aC).bind λx5=>((bif ((!x5)==false) then G7 a1 (aC.Succ.length:Int) else some false).bind λx6=>(bif (bif (!x5) then true else(!x6)) then(some (.done ([]:Au))) else(Bh (Bl a1 64) (Bh (Bl (Ay (([a1].length:Int)-1)) [a1].length) ((Af (BD aC a1) (List.replicate 64 (0:Int))).bind (λx24=>(match x24 with|(.inl l10)=>(Bh (([]:Au).length+([([a1].getD (Ay (([a1].length:Int)-1)).toNat (0:Int))]:Au).length<=room) (Bh (0<=(Ay (([a1].length:Int)-1))/\0+(Ay (([a1].length:Int)-1)).toNat<=[a1].length) (bif (decide ((0:Int)<(([a1].take (Ay (([a1].length:Int)-1)).toNat).length:Int))) then(some (.next ((L4 64 false (List.replicate 64 false) a1.toNat true),l10,([a1].take (Ay (([a1].length:Int)-1)).toNat),(([]:Au)++([([a1].getD (Ay (([a1].length:Int)-1)).toNat (0:Int))]:Au))))) else((D6 (([]:Au)++([([a1].getD (Ay (([a1].length:Int)-1)).toNat (0:Int))]:Au))).bind λx28=>(Bh ((([]:Au)++([([a1].getD (Ay (([a1].length:Int)-1)).toNat (0:Int))]:Au)).length=x28.length) (some (.done x28)))))))|(.inr (l11,l12,l13))=>(some (.next (l11,l12,l13,([]:Au)))))))))))) (Dq aC)).bind (λx54=>(some x54)))
theorem Uz(h:Hu v18 v1=some v2):sP 151 [(.agg (P4 v18)),(Z5 v1)] [] (Wm v2 20000) [(Wt 20000 v2.length)]:=
 sG Tryz.func151 λΓ q=>have hΓ:=q.own;gR q Fd [2] [(4,o8)] [] (c1 (Dp 1 Aq (0:Int))) (tB h λx54 y54 h=>gS y54 (λ(s_:rA)=>match s_ with|(l1,l2,l3,l4)=>0) (λ(s_:rA)=>match s_ with|(l1,l2,l3,l4)=>(⟨[LP,fJ,fI,(7,(.vsl 36007 l4.length)),(8,(.vsl 25 l3.length))],[(RM (eY v18)),(fL (o9 l1)),(qA l2),(Z4 25 l3),(Z4 36007 l4)],[]⟩:St)) (λr_=>aR (KG Γ v18 v1 r_)) (λy h=>tB h λx5 y5 h=>tB h λx6 y6 h=>tT q [1,2,21] [2] [(Z6 x5),(Z6 x6)] (ci (QA y5) (lL ((!x5)==false) (c3 (λ(hg:((!x5)==false)=true)=>(Nd (Db hg y6))) (gI ((!x5)==false)) (FM (!x5))))) (gC h (λh=>gR q [4] [] [(4,o8)] [] (c1 (Dp 1 Aq (0:Int))) (Td (⟨[(4,o8)],[],[]⟩:St) (tS h (WI (O8 (J1 [(6004,20000)] (show Le Γ _ sq from Le.trans (Cw (st':=⟨[(4,o8)],[],[]⟩) [4] [] q) (Le.trans (PM (t:=4) (nm:=6004) (sz':=1) rH 3 rfl rfl (.inl ⟨rfl,rfl⟩) (λh_=>absurd h_ (by decide))) (Cw (st':=sq) [4] [6004] q))))))))) λh=>gR q CO [2,5] [fJ] [] trivial (gLe (Qt 5 (show ∀ k_,k_<64->AVleL ((λi_=>AV.eraseAll (λn_=>Bw n_ [2,5]) ((λi=>(((List.replicate 64 [(.bool false)]).flatten).drop (i*1)).take 1) i_)) k_) ((λi=>eB ((List.replicate 64 false).getD i false)) k_) from(LU (e:=eB) (d:=false) (z:=[(.bool false)]) rfl rfl rfl))) (gR q [1,2,5,6] Xq [fI] [] trivial (gLe (Qt 6 (show ∀ k_,k_<64->AVleL ((λi_=>AV.eraseAll (λn_=>Bw n_ Xq) ((λi=>(((List.replicate 64 [Kk]).flatten).drop (i*1)).take 1) i_)) k_) (rl k_) from(LU (e:=Aq) (d:=(0:Int)) (z:=[Kk]) rfl rfl rfl))) (gR q [1,2,5,6,7] Xq [(7,o8)] [] (c1 (Dp 1 Aq (0:Int))) (tC h λc7_ h=>tU q [1,2,5,6,7] Xq (c2 c7_ (Eq.refl 64)) (gLe (Qt 5 (show ∀ k_,k_<64->AVleL ((λi_=>AV.eraseAll (λn_=>Bw n_ Xq) ((J7 (λi=>eB ((List.replicate 64 false).getD i false)) v1.toNat 0 [(.bool true)]) i_)) k_) ((md v1) k_) from(Bn rfl (λk_ hk_=>(Bi (AV.eraseAll (λn_=>Bw n_ Xq)) ((Rq (λ_ _=>rfl) (P6 c7_) rfl) k_ hk_)).trans rfl)))) (gR q Vu RB [(25,(.vsl 25 1))] [] trivial (gLe (Le.trans (Qt 25 (show ∀ k_,k_<1->AVleL ((λi_=>AV.eraseAll (λn_=>Bw n_ RB) ((λi_=>([(Z5 v1)].drop (i_*1)).take 1) i_)) k_) ((nR v1) k_) from(Bn rfl (QO (n:=0) YR rfl)))) (Pv (λ(k_:Nat) u=>(Ek u [(8,(.vsl 25 k_))] [(25,.arr 1 3 k_ (nR v1))])) (show 1=[v1].length from rfl))) (tC h λc8_ h=>tU q Xo RB (c2 c8_ (Eq.refl ([v1].length))) (gLe (st':=(so v1 v18)) (Le.trans (Cw (st':=⟨[LP,fJ,fI,(7,o8),(8,(.vsl 25 [v1].length)),(9,(Z5 (am v1)))],[(RM (eY v18)),(fL (md v1)),(eJ rl),(25,.arr 1 3 ([v1].length) (nR v1))],[]⟩) Xo RB q) (Le.trans (HF (t:=7) (nm:=36007) (sz':=1) rH 3 rfl rfl) (Cw (st':=(so v1 v18)) Xo L5 q))) (tL q h Xo L5 (λu l9=>(Ek u [] [(qA l9)])) (λu x_=>match x_ with|(.inl l10)=>aG Γ (.exit 0) (Ek u [] [(eJ (pe l10))])|(.inr (l11,l12,l13))=>aG Γ (.goto 0) (T9 Vu L5 u [(8,(.vsl 25 l13.length))] [(5,.arr 1 230 64 (λi=>eB (l11.getD i false))),(qA l12),(Z4 25 l13)])) (λl9 y h=>tC h λc14_ h=>tC h λc15_ h=>tU q [2,5,6,7,8,9,41] L5 (c3 c14_ (Eq.refl 64) c15_) (gC h (λh=>tC h λc16_ h=>tC h λc17_ h=>tC h λc18_ h=>tU q cT L5 (c4 c16_ c17_ (Eq.refl 64) c18_) (tC h λc19_ h=>tC h λc20_ h=>tU q cT L5 (c4 c19_ (Eq.refl 64) c20_ (Eq.refl 64)) (gLe (Qt 6 (show ∀ k_,k_<64->AVleL ((λi_=>AV.eraseAll WG ((J7 (λi=>Aq (l9.getD i 0)) (am v1).toNat 0 [(.int .i64 (Ay ((l9.getD (am v1).toNat (0:Int))+1)))]) i_)) k_) ((λi=>Aq ((L4 64 (0:Int) l9 (am v1).toNat (Ay ((l9.getD (am v1).toNat (0:Int))+1))).getD i 0)) k_) from(Bn rfl (λk_ hk_=>(Bi (AV.eraseAll WG) ((Rq (λ_ _=>rfl) (P6 c20_) rfl) k_ hk_)).trans rfl)))) (tC h λc21_ h=>tU q jn L5 (c2 c21_ (Eq.refl 64)) (gC h (λh=>tC h λc22_ h=>tU q [2,5,6,7,8,10] L5 (c2 c22_ (Eq.refl 64)) (gLe (Qt 5 (show ∀ k_,k_<64->AVleL ((λi_=>AV.eraseAll WG ((J7 (md v1) (j5 v18 v1 l9).toNat 0 [(.bool true)]) i_)) k_) ((λi=>eB ((L4 64 false (L4 64 false (List.replicate 64 false) v1.toNat true) (j5 v18 v1 l9).toNat true).getD i false)) k_) from(Bn rfl (λk_ hk_=>(Bi (AV.eraseAll WG) ((Rq (λ_ _=>rfl) (P6 c22_) rfl) k_ hk_)).trans rfl)))) (tC h λc23_ h=>gR q Vu L5 [(65,(np (j5 v18 v1 l9)))] [] (c3 (Bx 1 Aq (0:Int) ([(j5 v18 v1 l9)]:Au)) (Eq.refl ([v1].length)) c23_) (tS h (gO (C3 (Le.trans (Le.trans (Qt 25 (show ∀ k_,k_<([v1].length+([(j5 v18 v1 l9)]:Au).length)->AVleL ((λi_=>AV.eraseAll WG ((Km ([v1].length) (nR v1) (λi=>Aq (([(j5 v18 v1 l9)]:Au).getD i 0))) i_)) k_) ((λi=>Aq (([v1]++([(j5 v18 v1 l9)]:Au)).getD i 0)) k_) from(Bn (G9 _ _) (λk_ hk_=>(Bi (AV.eraseAll WG) ((Yr (λ_ _=>rfl) (λ_ _=>rfl)) k_ hk_)).trans rfl)))) (Pv (λ(k_:Nat) u=>(Ek u [(8,(.vsl 25 k_))] [(25,.arr 1 3 k_ (λi=>Aq (([v1]++([(j5 v18 v1 l9)]:Au)).getD i 0)))])) (show([v1].length+([(j5 v18 v1 l9)]:Au).length)=([v1]++([(j5 v18 v1 l9)]:Au)).length from(G9 _ _)))) Mf))))))) λh=>tS h (gN (Cw Xo L5 q))))))) λh=>tS h (gO (C3 (Cw Xo L5 q))))) λx24 h=>(match x24,h with | .inl l10,h=>gA (tC h λc26_ h=>gR q Vu L5 [(69,(np (am v1)))] [] (c3 (Bx 1 Aq (0:Int) ([(am v1)]:Au)) (Eq.refl (([]:Au).length)) c26_) (gLe (Le.trans (Qt 36007 (show ∀ k_,k_<(([]:Au).length+([(am v1)]:Au).length)->AVleL ((λi_=>AV.eraseAll WG ((Km (([]:Au).length) rH (λi=>Aq (([(am v1)]:Au).getD i 0))) i_)) k_) ((pB v1) k_) from(Bn (G9 _ _) (λk_ hk_=>(Bi (AV.eraseAll WG) ((Yr (λ_ _=>rfl) (λ_ _=>rfl)) k_ hk_)).trans rfl)))) (Pv (λ(k_:Nat) u=>(Ek u [(7,(.vsl 36007 k_))] [(36007,.arr 1 3 k_ (pB v1))])) (show(([]:Au).length+([(am v1)]:Au).length)=(j7 v1).length from(G9 _ _)))) (tC h λc27_ h=>tU q Vu L5 (c1 c27_) (Td (⟨[LP,fJ,fI,(7,(.vsl 36007 (j7 v1).length)),(8,(.vsub 25 [v1].length 0 (o7 v1)))],[(RM (eY v18)),(fL (md v1)),(eJ (pe l10)),(25,.arr 1 3 ([v1].length) (nR v1)),(36007,.arr 1 3 ((j7 v1).length) (pB v1))],[]⟩:St) (gLe (Le.trans (Le.trans (TE (t:=8) (r:=25) (k:=(o7 v1)) rfl rfl c27_.2 (by kernel_rfl) (.row (by kernel_rfl) (.arr (λ_=>by kernel_rfl) (.arr (λ_=>by kernel_rfl) (.arr (λ_=>by kernel_rfl) (.arr (λ_=>by kernel_rfl) .nil))))) (by rw[hΓ];rfl)) (I7 (st':=⟨(sr v1),[(RM (eY v18)),(fL (md v1)),(eJ (pe l10)),(25,.arr 1 3 (o7 v1) (nR v1)),(36007,.arr 1 3 ((j7 v1).length) (pB v1))],[]⟩) (by kernel_rfl))) (Le.trans (Re (st':=⟨(sr v1),[(RM (eY v18)),(fL (md v1)),(eJ (pe l10)),(25,.arr 1 3 (o7 v1) (λi=>Aq ((rp v1).getD i 0))),(36007,.arr 1 3 ((j7 v1).length) (pB v1))],[]⟩) (TmpsLe.refl _) (.same (.same (.same (.arr (cB (e:=Aq) (d:=(0:Int))) (.same .nil)))))) (I7 (Bi (λk_:Nat=>(⟨[LP,fJ,fI,(7,(.vsl 36007 (j7 v1).length)),(8,(.vsl 25 k_))],[(RM (eY v18)),(fL (md v1)),(eJ (pe l10)),(25,.arr 1 3 k_ (λi=>Aq ((rp v1).getD i 0))),(36007,.arr 1 3 ((j7 v1).length) (pB v1))],[]⟩:St)) (show(o7 v1)=(rp v1).length from VF c27_.2))))) (Ak q [2,5,6,7,8,78] L5 (gC h (λh=>tS h (XM (Cw Vu L5 q))) λh=>tB h λx28 y28 h=>tC h λc29_ h=>tT q [7] [36007] [⟨[(36007,34000)],[],(.tuple []),[(Z4 34000 x28)],[],[]⟩] (c1 (Kc y28)) (gLe (Pv (λ(k_:Nat) u=>(Ek u [(7,(.vsl 36007 k_))] [])) (show(j7 v1).length=x28.length from c29_)) (Ak q [4] [36007] (Td (⟨[(4,(.vsl 36007 x28.length))],[(Z4 36007 x28)],[]⟩:St) (tS h (WI (O8 (J1 [(36007,20000)] (Le.trans (le_freeze (nm:=36007) (sz:=1) (n:=x28.length) (e:=3) (f:=(λi=>Aq (x28.getD i 0))) (g:=(λi=>Aq (x28.getD i 0))) rfl ⟨rfl,trivial⟩ (λ_ _=>rfl) (by rw[hΓ];rfl)) (I7 (st':=⟨[(4,(Wm x28 36007))],[(Wt 36007 x28.length)],[]⟩) (by kernel_rfl))))))))))))))))) | .inr ⟨l11,l12,l13⟩,h=>my (λst' hl30=>tS h (XM (Le.trans hl30 Mf))))))))))))))))) (λ⟨l1,l2,l3,l4⟩ y h=>tC h λc31_ h=>tU q Xo L5 (c2 c31_ (Eq.refl l3.length)) (tL q h Xo L5 (λu l32=>(Ek u [] [(qA l32)])) (λu x_=>match x_ with|(.inl l33)=>aG Γ (.exit 0) (Ek u [] [(eJ (pm l33))])|(.inr (l34,l35,l36))=>aG Γ (.goto 0) (T9 Vu L5 u [(8,(.vsl 25 l36.length))] [(5,.arr 1 230 64 (λi=>eB (l34.getD i false))),(qA l35),(Z4 25 l36)])) (λl32 y h=>tC h λc37_ h=>tC h λc38_ h=>tU q [2,5,6,7,8,9,41] L5 (c3 c37_ (Eq.refl 64) c38_) (gC h (λh=>tC h λc39_ h=>tC h λc40_ h=>tC h λc41_ h=>tU q cT L5 (c4 c39_ c40_ (Eq.refl 64) c41_) (tC h λc42_ h=>tC h λc43_ h=>tU q cT L5 (c4 c42_ (Eq.refl 64) c43_ (Eq.refl 64)) (gLe (Qt 6 (show ∀ k_,k_<64->AVleL ((λi_=>AV.eraseAll WG ((J7 (λi=>Aq (l32.getD i 0)) (eG l3).toNat 0 [(.int .i64 (Ay ((l32.getD (eG l3).toNat (0:Int))+1)))]) i_)) k_) ((λi=>Aq ((L4 64 (0:Int) l32 (eG l3).toNat (Ay ((l32.getD (eG l3).toNat (0:Int))+1))).getD i 0)) k_) from(Bn rfl (λk_ hk_=>(Bi (AV.eraseAll WG) ((Rq (λ_ _=>rfl) (P6 c43_) rfl) k_ hk_)).trans rfl)))) (tC h λc44_ h=>tU q jn L5 (c2 c44_ (Eq.refl 64)) (gC h (λh=>tC h λc45_ h=>tU q [2,5,6,7,8,10] L5 (c2 c45_ (Eq.refl 64)) (gLe (Qt 5 (show ∀ k_,k_<64->AVleL ((λi_=>AV.eraseAll WG ((J7 (o9 l1) (j6 v18 l3 l32).toNat 0 [(.bool true)]) i_)) k_) ((λi=>eB ((L4 64 false l1 (j6 v18 l3 l32).toNat true).getD i false)) k_) from(Bn rfl (λk_ hk_=>(Bi (AV.eraseAll WG) ((Rq (λ_ _=>rfl) (P6 c45_) rfl) k_ hk_)).trans rfl)))) (tC h λc46_ h=>gR q Vu L5 [(65,(np (j6 v18 l3 l32)))] [] (c3 (Bx 1 Aq (0:Int) ([(j6 v18 l3 l32)]:Au)) (Eq.refl l3.length) c46_) (tS h (gO (C3 (Le.trans (Le.trans (Qt 25 (show ∀ k_,k_<(l3.length+([(j6 v18 l3 l32)]:Au).length)->AVleL ((λi_=>AV.eraseAll WG ((Km l3.length (λi=>Aq (l3.getD i 0)) (λi=>Aq (([(j6 v18 l3 l32)]:Au).getD i 0))) i_)) k_) ((λi=>Aq ((l3++([(j6 v18 l3 l32)]:Au)).getD i 0)) k_) from(Bn (G9 _ _) (λk_ hk_=>(Bi (AV.eraseAll WG) ((Yr (λ_ _=>rfl) (λ_ _=>rfl)) k_ hk_)).trans rfl)))) (Pv (λ(k_:Nat) u=>(Ek u [(8,(.vsl 25 k_))] [(25,.arr 1 3 k_ (λi=>Aq ((l3++([(j6 v18 l3 l32)]:Au)).getD i 0)))])) (show(l3.length+([(j6 v18 l3 l32)]:Au).length)=(l3++([(j6 v18 l3 l32)]:Au)).length from(G9 _ _)))) Mf))))))) λh=>tS h (gN (Cw Xo L5 q))))))) λh=>tS h (gO (C3 (Cw Xo L5 q))))) λx47 h=>(match x47,h with | .inl l33,h=>gA (tC h λc49_ h=>gR q Vu L5 [(69,(np (eG l3)))] [] (c3 (Bx 1 Aq (0:Int) ([(eG l3)]:Au)) (Eq.refl l4.length) c49_) (gLe (Le.trans (Qt 36007 (show ∀ k_,k_<(l4.length+([(eG l3)]:Au).length)->AVleL ((λi_=>AV.eraseAll WG ((Km l4.length (λi=>Aq (l4.getD i 0)) (λi=>Aq (([(eG l3)]:Au).getD i 0))) i_)) k_) ((pA l4 l3) k_) from(Bn (G9 _ _) (λk_ hk_=>(Bi (AV.eraseAll WG) ((Yr (λ_ _=>rfl) (λ_ _=>rfl)) k_ hk_)).trans rfl)))) (Pv (λ(k_:Nat) u=>(Ek u [(7,(.vsl 36007 k_))] [(36007,.arr 1 3 k_ (pA l4 l3))])) (show(l4.length+([(eG l3)]:Au).length)=(er l4 l3).length from(G9 _ _)))) (tC h λc50_ h=>tU q Vu L5 (c1 c50_) (Td (⟨[LP,fJ,fI,(7,(.vsl 36007 (er l4 l3).length)),(8,(.vsub 25 l3.length 0 (nP l3)))],[(RM (eY v18)),(fL (o9 l1)),(eJ (pm l33)),(Z4 25 l3),(36007,.arr 1 3 ((er l4 l3).length) (pA l4 l3))],[]⟩:St) (gLe (Le.trans (Le.trans (TE (t:=8) (r:=25) (k:=(nP l3)) rfl rfl c50_.2 (by kernel_rfl) (.row (by kernel_rfl) (.arr (λ_=>by kernel_rfl) (.arr (λ_=>by kernel_rfl) (.arr (λ_=>by kernel_rfl) (.arr (λ_=>by kernel_rfl) .nil))))) (by rw[hΓ];rfl)) (I7 (st':=⟨[LP,fJ,fI,(7,(.vsl 36007 (er l4 l3).length)),(8,(.vsl 25 (nP l3)))],[(RM (eY v18)),(fL (o9 l1)),(eJ (pm l33)),(25,.arr 1 3 (nP l3) (λi=>Aq (l3.getD i 0))),(36007,.arr 1 3 ((er l4 l3).length) (pA l4 l3))],[]⟩) (by kernel_rfl))) (Le.trans (Re (st':=⟨[LP,fJ,fI,(7,(.vsl 36007 (er l4 l3).length)),(8,(.vsl 25 (nP l3)))],[(RM (eY v18)),(fL (o9 l1)),(eJ (pm l33)),(25,.arr 1 3 (nP l3) (λi=>Aq ((l3.take (Ay ((l3.length:Int)-1)).toNat).getD i 0))),(36007,.arr 1 3 ((er l4 l3).length) (pA l4 l3))],[]⟩) (TmpsLe.refl _) (.same (.same (.same (.arr (cB (e:=Aq) (d:=(0:Int))) (.same .nil)))))) (I7 (Bi (λk_:Nat=>(⟨[LP,fJ,fI,(7,(.vsl 36007 (er l4 l3).length)),(8,(.vsl 25 k_))],[(RM (eY v18)),(fL (o9 l1)),(eJ (pm l33)),(25,.arr 1 3 k_ (λi=>Aq ((l3.take (Ay ((l3.length:Int)-1)).toNat).getD i 0))),(36007,.arr 1 3 ((er l4 l3).length) (pA l4 l3))],[]⟩:St)) (show(nP l3)=(l3.take (Ay ((l3.length:Int)-1)).toNat).length from VF c50_.2))))) (Ak q [2,5,6,7,8,78] L5 (gC h (λh=>tS h (XM (Cw Vu L5 q))) λh=>tB h λx51 y51 h=>tC h λc52_ h=>tT q [7] [36007] [⟨[(36007,34000)],[],(.tuple []),[(Z4 34000 x51)],[],[]⟩] (c1 (Kc y51)) (gLe (Pv (λ(k_:Nat) u=>(Ek u [(7,(.vsl 36007 k_))] [])) (show(er l4 l3).length=x51.length from c52_)) (Ak q [4] [36007] (Td (⟨[(4,(.vsl 36007 x51.length))],[(Z4 36007 x51)],[]⟩:St) (tS h (WI (O8 (J1 [(36007,20000)] (Le.trans (le_freeze (nm:=36007) (sz:=1) (n:=x51.length) (e:=3) (f:=(λi=>Aq (x51.getD i 0))) (g:=(λi=>Aq (x51.getD i 0))) rfl ⟨rfl,trivial⟩ (λ_ _=>rfl) (by rw[hΓ];rfl)) (I7 (st':=⟨[(4,(Wm x51 36007))],[(Wt 36007 x51.length)],[]⟩) (by kernel_rfl))))))))))))))))) | .inr ⟨l34,l35,l36⟩,h=>my (λst' hl53=>tS h (XM (Le.trans hl53 Mf)))))) (Uq (λst' hk=>tS h (gK hk))))
def Zc(aA:Int)(aX:Int):Option Gu:=
 (some ((Ki ((Ki ((Ki ((Rw .u64 aA (32:Int))*(Rw .u64 aX (32:Int))))+(Rw .u64 (Ki ((Ki ((Rw .u64 aA (32:Int))*(P1 .and .u64 aX (4294967295:Int))))+(Rw .u64 (Ki ((P1 .and .u64 aA (4294967295:Int))*(P1 .and .u64 aX (4294967295:Int)))) (32:Int)))) (32:Int))))+(Rw .u64 (Ki ((P1 .and .u64 (Ki ((Ki ((Rw .u64 aA (32:Int))*(P1 .and .u64 aX (4294967295:Int))))+(Rw .u64 (Ki ((P1 .and .u64 aA (4294967295:Int))*(P1 .and .u64 aX (4294967295:Int)))) (32:Int)))) (4294967295:Int))+(Ki ((P1 .and .u64 aA (4294967295:Int))*(Rw .u64 aX (32:Int)))))) (32:Int)))),(Ki (aA*aX))))
variable{v19:Gu}
theorem KY(h:Zc v1 v11=some v19):sP 247 (nr v1 v11) [] (.tuple (nr v19.1 v19.2)) []:=
 sG Tryz.func247 λΓ q=>tW q Fc [] [0,1,6] [] (tU q JT [] (c1 (show(0<=(32:Int)) from(by decide))) (Ak q WC [] (tU q [0,1,6,7,8,9] [] (c1 (show(0<=(32:Int)) from(by decide))) (Ak q [0,1,6,7,8,9,10] [] (tU q [0,1,6,7,9,11] [] (c1 (show(0<=(32:Int)) from(by decide))) (Ak q [0,1,6,7,9,11,12] [] (tU q [0,1,6,7,9,12,13] [] (c1 (show(0<=(32:Int)) from(by decide))) (Ak q [0,1,7,9,12,13] [] (tU q [0,1,4] [] (c1 (show(0<=(32:Int)) from(by decide))) (Ak q [4,5] [] (tS h (Dm []))))))))))))
def M8(aA:Int)(aX:Int):Option Gu:=
 ((Zc aA aX).bind λx1=>(some (x1.1,x1.2)))
theorem DJ(h:M8 v1 v11=some v19):sP 209 (nr v1 v11) [] (.tuple (nr v19.1 v19.2)) []:=
 sG Tryz.func209 λΓ q=>Ak q Fc [] (gw false (tB h λx1 y1 h=>tT q [8,9] [] [⟨[],[],(.tuple (nr x1.1 x1.2)),[],[],[]⟩] (c1 (KY y1)) (Ak q [4,5] [] (tS h (Dm [])))))
abbrev JH:=(Int×Au)
abbrev ov:=(LR (Int×Au) Au)
def Cl :JH->Option ov:=
 λ((i7,l8):JH)=>(bif (decide (i7<(l8.length:Int))) then(Bh (0<=i7/\0+i7.toNat<=l8.length) (Bh (0<=i7/\0+i7.toNat<=l8.length) (some (.next ((Ay (i7+((Nat.min ((0+i7.toNat)-0) (l8.length-(0+i7.toNat))):Int))),(FG l8 (0+i7.toNat) (Nat.min ((0+i7.toNat)-0) (l8.length-(0+i7.toNat))) (λi=>l8.getD (0+i) 0))))))) else(some (.done l8)))
def e7(x3:Gu):=(List.replicate (Ay x3.2).toNat (0:Int))
def ru(x3:Gu)(aA:Au):=(FG (e7 x3) 0 (Nat.min aA.length ((e7 x3).length-0)) (λi=>aA.getD i 0))
def rq(l8:Au)(i7:Int):=(FG l8 (0+i7.toNat) (Nat.min ((0+i7.toNat)-0) (l8.length-(0+i7.toNat))) (λi=>l8.getD (0+i) 0))
def Fz(aA:Au)(aa6:Int):Option Au:=
 (Option.bind (α:=Unit) (bif (decide (aa6<0)) then none else(some ())) (λx1=>(match x1 with|_=>((M8 (Ki (aA.length:Int)) (Ki aa6)).bind λx3=>(Option.bind (α:=Unit) (bif (bif (decide ((0:Int)<x3.1)) then true else(decide ((9223372036854775807:Int)<x3.2))) then none else(some ())) (λx4=>(match x4 with|_=>(Bh (0<=(Ay x3.2)/\(Ay x3.2)<=(Ay x3.2)/\(Ay x3.2)<=(room:Int)) ((Af (S:=JH) (X:=Au) Cl (((Nat.min aA.length ((List.replicate (Ay x3.2).toNat (0:Int)).length-0)):Int),(FG (List.replicate (Ay x3.2).toNat (0:Int)) 0 (Nat.min aA.length ((List.replicate (Ay x3.2).toNat (0:Int)).length-0)) (λi=>aA.getD i 0)))).bind (λx12=>(some x12)))))))))))
theorem Q2(h:Fz v2 v1=some v17):sP 197 [(L8 v2),(Z5 v1)] [] (.vsl 20000 v17.length) [(Z4 20000 v17)]:=
 sG Tryz.func197 λΓ q=>gR q Fc [] [(4,cj)] [] (c1 (Dp 1 Aq (0:Int))) (tB h λx1 y1 h=>gJ y1 (λ_=>aG Γ .normal (⟨[(0,(L8 v2)),(1,(Z5 v1))],[],[]⟩:St)) (λy h=>Ak q AH [] (gC h (λh=>nomatch h) λh=>tS h (gK (C3 (Cw Fc [] q))))) (gA (tB h λx3 y3 h=>tT q [0,5,6] [] [⟨[],[],(.tuple (nr x3.1 x3.2)),[],[],[]⟩] (c1 (DJ y3)) (tB h λx4 y4 h=>gJ y4 (λ_=>aG Γ .normal (⟨[(0,(L8 v2)),(6,(.int .u64 x3.2))],[],[]⟩:St)) (λy h=>tU q [0,6,26] [] (c2 (gI ((decide ((0:Int)<x3.1))==false)) (FM (decide ((0:Int)<x3.1)))) (gC h (λh=>nomatch h) λh=>tS h (gK (C3 (Cw [0,6] [] q))))) (gA (tV q [0,7] [30] h λh=>by exact gLe (Le.trans (Qt 30 (show ∀ k_,k_<((Ay x3.2).toNat)->AVleL ((λi_=>AV.eraseAll (λn_=>Bw n_ [30]) ((λ_=>[Kk]) i_)) k_) ((λi=>Aq ((e7 x3).getD i 0)) k_) from(λk hk=>Nn (e:=Aq) (d:=(0:Int)) (.cons (AVle.refl _) .nil) _ k (Nq hk)))) (Pv (λ(k_:Nat) u=>(Ek u [(7,(.vsl 30 k_))] [(30,.arr 1 3 k_ (λi=>Aq ((e7 x3).getD i 0)))])) (show(Ay x3.2).toNat=(e7 x3).length from(N7 ..).symm))) (tU q [7,8] [30] (c1 (Eq.refl ((e7 x3).length))) (gLe (Le.trans (Qt 30 (show ∀ k_,k_<((e7 x3).length)->AVleL ((λi_=>AV.eraseAll (λn_=>Bw n_ [30]) ((LY (λi=>Aq ((e7 x3).getD i 0)) 0 (Nat.min v2.length ((e7 x3).length-0)) (λi=>Aq (v2.getD i 0))) i_)) k_) ((λi=>Aq ((ru x3 v2).getD i 0)) k_) from(Bn (Dc ..) (λk_ hk_=>(Bi (AV.eraseAll (λn_=>Bw n_ [30])) ((FF (e:=Aq) (d:=(0:Int)) (l:=(e7 x3)) (s:=(λi=>v2.getD i 0)) (λ_ _=>rfl) (λ_ _=>rfl)) k_ hk_)).trans rfl)))) (Pv (λ(k_:Nat) u=>(Ek u [(7,(.vsl 30 k_))] [(30,.arr 1 3 k_ (λi=>Aq ((ru x3 v2).getD i 0)))])) (show(e7 x3).length=(ru x3 v2).length from(Dc ..)))) (tL q h [7,8] [30] (λu (i7,l8)=>(Ek u [(7,(.vsl 30 l8.length)),(8,(Z5 i7))] [(Z4 30 l8)])) (λu l9=>aG Γ (.exit 0) (⟨[(7,(.vsl 30 l9.length))],[(Z4 30 l9)],[]⟩:St)) (λ⟨i7,l8⟩ y h=>Ak q [7,8,37] [30] (gC h (λh=>tC h λc10_ h=>tC h λc11_ h=>tU q [7,8] [30] (c4 c10_ c11_ (Eq.refl l8.length) (Eq.refl l8.length)) (tS h (gN (Le.trans (Le.trans (Qt 30 (show ∀ k_,k_<l8.length->AVleL ((λi_=>AV.eraseAll (λn_=>Bw n_ [30]) ((LY (λi=>Aq (l8.getD i 0)) (0+i7.toNat) (Nat.min ((0+i7.toNat)-0) (l8.length-(0+i7.toNat))) (λi=>(λi=>Aq (l8.getD i 0)) (0+i))) i_)) k_) ((λi=>Aq ((rq l8 i7).getD i 0)) k_) from(Bn (Dc ..) (λk_ hk_=>(Bi (AV.eraseAll (λn_=>Bw n_ [30])) ((FF (e:=Aq) (d:=(0:Int)) (l:=l8) (s:=(λi=>l8.getD (0+i) 0)) (λ_ _=>rfl) (λ_ _=>rfl)) k_ hk_)).trans rfl)))) (Pv (λ(k_:Nat) u=>(Ek u [(7,(.vsl 30 k_))] [(30,.arr 1 3 k_ (λi=>Aq ((rq l8 i7).getD i 0)))])) (show l8.length=(rq l8 i7).length from(Dc ..)))) Mf)))) λh=>tS h (gO (C3 (Cw [7] [30] q))))) λx12 h=>gA (Ak q [4] [30] (tS h (Dm [(30,20000)]))))))))))))
abbrev LM:=(Int×List Bool)
abbrev jX:=(LR (Int×List Bool) (List Bool))
def Ht(aB:Au):LM->Option jX:=
 λ((i2,l3):LM)=>(bif (i2 !=-1) then(Bh (Bl i2 l3.length) (Bh (Bl i2 aB.length) (some (.next ((aB.getD i2.toNat 0),(l3.set i2.toNat true)))))) else(some (.done l3)))
def Gd(aB:Au)(l4:List Bool):Int->Option (LR Int Int):=
 λ(i9:Int)=>(Bh (Bl i9 l4.length) (bif (!(l4.getD i9.toNat false)) then(Bh (Bl i9 aB.length) (some (.next (aB.getD i9.toNat 0)))) else(some (.done i9))))
def Na(aB:Au)(aO:Int)(aQ:Int):Option Int:=
 (Bh (0<=(aB.length:Int)/\(aB.length:Int)<=(aB.length:Int)/\(aB.length:Int)<=(room:Int)) ((Af (Ht aB) (aO,(List.replicate (aB.length:Int).toNat false))).bind (λx7=>((Af (Gd aB x7) aQ).bind (λx13=>(some x13))))))
variable{v20:Int}
theorem DK(h:Na v2 v1 v11=some v20):sP 240 [(L8 v2),(Z5 v1),(Z5 v11)] [] (.int .i64 v20) []:=
 sG Tryz.func240 λΓ q=>Ak q [0,1,2] [] (tV q [0,1,2,7] [11] h λh=>by exact gLe (Le.trans (Qt 11 (show ∀ k_,k_<((v2.length:Int).toNat)->AVleL ((λi_=>AV.eraseAll (λn_=>Bw n_ [11]) ((λ_=>[(.bool false)]) i_)) k_) ((λi=>eB ((List.replicate (v2.length:Int).toNat false).getD i false)) k_) from(λk hk=>Nn (e:=eB) (d:=false) (.cons (AVle.refl _) .nil) _ k (Nq hk)))) (Pv (λ(k_:Nat) u=>(Ek u [(7,(.vsl 11 k_))] [(11,.arr 1 4 k_ (λi=>eB ((List.replicate (v2.length:Int).toNat false).getD i false)))])) (show(v2.length:Int).toNat=(List.replicate (v2.length:Int).toNat false).length from(N7 ..).symm))) (Ak q RE [11] (tL q h RE [11] (λu (i2,l3)=>(Ek u [(7,(.vsl 11 l3.length)),(8,(Z5 i2))] [(Z8 11 l3)])) (λu l4=>aG Γ (.exit 0) (T9 [0,2,7] [11] u [(7,(.vsl 11 l4.length))] [(Z8 11 l4)])) (λ⟨i2,l3⟩ y h=>Ak q [0,2,7,8,14] [11] (gC h (λh=>tC h λc5_ h=>tU q RE [11] (c2 c5_ (Eq.refl l3.length)) (gLe (Le.trans (Qt 11 (show ∀ k_,k_<l3.length->AVleL ((λi_=>AV.eraseAll (λn_=>Bw n_ [11]) ((J7 (λi=>eB (l3.getD i false)) i2.toNat 0 [(.bool true)]) i_)) k_) ((λi=>eB ((l3.set i2.toNat true).getD i false)) k_) from(Bn (D8 ..).symm (λk_ hk_=>(Bi (AV.eraseAll (λn_=>Bw n_ [11])) ((Gs (λ_ _=>rfl) (Ig c5_) rfl) k_ hk_)).trans rfl)))) (Pv (λ(k_:Nat) u=>(Ek u [(7,(.vsl 11 k_))] [(11,.arr 1 4 k_ (λi=>eB ((l3.set i2.toNat true).getD i false)))])) (show l3.length=(l3.set i2.toNat true).length from(D8 ..).symm))) (tV q RE [11] h λh=>tN h))) λh=>tS h (gO (C3 (Cw [0,2,7] [11] q))))) λx7 h=>gA (tL q h [0,2,7] [11] (λu i9=>(Ek u [(2,(Z5 i9))] [])) (λu i10=>aG Γ (.exit 2) (⟨[(2,(Z5 i10))],[],[]⟩:St)) (λi9 y h=>tC h λc11_ h=>tU q [0,2,7,26] [11] (c2 c11_ (Eq.refl x7.length)) (gC h (λh=>tV q [0,2,7] [11] h λh=>tN h) λh=>tS h (gO (C3 (Cw [2] [] q))))) λx13 h=>gA (Ak q [6] [] (tS h (Dm [])))))))
set_option maxRecDepth 100000
set_option maxHeartbeats 2000000
def Ej(aB:Au)(a6:Au):Gu->Option ow:=
 λ((i1,i2):Gu)=>(bif (decide (i2<(a6.length:Int))) then(Option.bind (α:=Int) (Bh (Bl i2 a6.length) (Bh (Bl (a6.getD i2.toNat 0) aB.length) (bif ((aB.getD (a6.getD i2.toNat 0).toNat (0:Int))==-2) then(some i1) else(bif (i1==-2) then(some (a6.getD i2.toNat 0)) else((Na aB i1 (a6.getD i2.toNat 0)).bind λx7=>(some x7)))))) (λx8=>(some (.next (x8,(Ay (i2+1))))))) else(some (.done i1)))
def I5(aB:Au)(a6:Au):Option Int:=
 ((Af (Ej aB a6) ((-2:Int),(0:Int))).bind (λx10=>(some x10)))
theorem Uy(h:I5 v2 v17=some v1):sP 198 [(L8 v2),(L8 v17)] [] (.int .i64 v1) []:=
 sG Tryz.func198 λΓ q=>tW q Fc [] Tw [] (Ak q OJ [] (tL q h OJ [] (λu (i1,i2)=>(Ek u [(5,(Z5 i1)),(10,(Z5 i2))] [])) (λu i3=>aG Γ (.exit 0) (⟨[(5,(Z5 i3))],[],[]⟩:St)) (λ⟨i1,i2⟩ y h=>Ak q [0,5,8,9,10,11] [] (gC h (λh=>tB h λx8 y8 h=>gJ y8 (λi4=>aG Γ .normal (⟨[(0,(L8 v2)),(5,(Z5 i4)),(8,(L8 v17)),(9,(.int .i64 (v17.length:Int))),(10,(Z5 i2))],[],[]⟩:St)) (λy h=>tV q [0,5,7,8,9,10] [] h λh=>tV q [0,5,7,8,9,10,18] [] h λh=>gC h (λh=>tS h (gK (C3 (Cw OJ [] q)))) λh=>Ak q [0,5,7,8,9,10,24] [] (gC h (λh=>Ak q OJ [] (tS h (gK (C3 Mf)))) λh=>tB h λx7 y7 h=>tT q OJ [] [(fH x7)] (c1 (DK y7)) (tS h (gK (C3 Mf))))) (gA (Ak q OJ [] (tN h)))) λh=>tS h (gO (C3 (Cw [5] [] q))))) λx10 h=>gA (Ak q [4] [] (tS h (Dm [])))))
abbrev mS:=(Bool×Int×Au)
abbrev qq:=(LR (Bool×Int×Au) (Bool×Au))
abbrev jY:=(Bool×Au)
def D4(aC:C8)(x3:Au):mS->Option qq:=
 λ((b7,i8,l9):mS)=>(bif (decide (i8<((x3.drop (1:Int).toNat).length:Int))) then(Option.bind (α:=jY) (Bh (Bl i8 (x3.drop (1:Int).toNat).length) (Bh (Bl ((x3.drop (1:Int).toNat).getD i8.toNat 0) aC.Pred.length) ((I5 l9 (aC.Pred.getD ((x3.drop (1:Int).toNat).getD i8.toNat 0).toNat [])).bind λx16=>(Bh (Bl ((x3.drop (1:Int).toNat).getD i8.toNat 0) l9.length) (bif (x16 !=(l9.getD ((x3.drop (1:Int).toNat).getD i8.toNat 0).toNat (0:Int))) then(Bh (Bl ((x3.drop (1:Int).toNat).getD i8.toNat 0) l9.length) (some (true,(l9.set ((x3.drop (1:Int).toNat).getD i8.toNat 0).toNat x16)))) else(some (b7,l9))))))) (λ(b12,l13)=>(some (.next (b12,(Ay (i8+1)),l13))))) else(some (.done (b7,l9))))
def Qu(aC:C8)(l1:Au):mS->Option qq:=
 λ((b24,i25,l26):mS)=>(bif (decide (i25<((l1.drop (1:Int).toNat).length:Int))) then(Option.bind (α:=jY) (Bh (Bl i25 (l1.drop (1:Int).toNat).length) (Bh (Bl ((l1.drop (1:Int).toNat).getD i25.toNat 0) aC.Pred.length) ((I5 l26 (aC.Pred.getD ((l1.drop (1:Int).toNat).getD i25.toNat 0).toNat [])).bind λx33=>(Bh (Bl ((l1.drop (1:Int).toNat).getD i25.toNat 0) l26.length) (bif (x33 !=(l26.getD ((l1.drop (1:Int).toNat).getD i25.toNat 0).toNat (0:Int))) then(Bh (Bl ((l1.drop (1:Int).toNat).getD i25.toNat 0) l26.length) (some (true,(l26.set ((l1.drop (1:Int).toNat).getD i25.toNat 0).toNat x33)))) else(some (b24,l26))))))) (λ(b29,l30)=>(some (.next (b29,(Ay (i25+1)),l30))))) else(some (.done (b24,l26))))
abbrev jZ:=(Au×Au)
def Fj(aC:C8):jZ->Option (LR (Au×Au) Au):=
 λ(s_:jZ)=>match s_ with|(l1,l2)=>(Bh (0<=(1:Int)/\(1:Int)<=(l1.length:Int)) ((Af (Qu aC l1) (false,(0:Int),l2)).bind (λx38=>(match x38 with|(b27,l28)=>(bif b27 then(some (.next (l1,l28))) else(some (.done l28)))))))
def WM(Γ:G2)(aC:C8)(aZ:Int)(r:Au):Exit->St->Prop:=fK Tryz.prog Γ Tryz.f152.results.toList [] (Wm r 20000) [(Wt 20000 r.length)]
def pC:=(λn_=>Bw n_ [2,13,21])
def rK:List eO:=[(4,cj)]
def rJ(x3:Au)(i8:Int):=((x3.drop (1:Int).toNat).getD i8.toNat 0)
def rI(l1:Au)(i25:Int):=((l1.drop (1:Int).toNat).getD i25.toNat 0)
def rv(aC:C8):List AV:=[(RK aC.Succ),(RK aC.Pred)]
def ss:=(⟨[(4,(rU 6004))],[(6004,.tok 1 3 (([]:Au).length))],[]⟩:St)
def Pc(aC:C8)(aZ:Int):Option Au:=
 ((Nj (S:=jZ) (X:=Au) ((Hu aC aZ).bind λx3=>(bif ((x3.length:Int)==0) then(some (.done ([]:Au))) else((Fz ([(-2:Int)]:Au) (aC.Succ.length:Int)).bind λx4=>(Bh (Bl aZ x4.length) (Bh (0<=(1:Int)/\(1:Int)<=(x3.length:Int)) ((Af (D4 aC x3) (false,(0:Int),(x4.set aZ.toNat (-1:Int)))).bind (λ(b10,l11)=>(bif b10 then(some (.next (x3,l11))) else(some (.done l11)))))))))) (Fj aC)).bind (λx40=>(some x40)))
theorem UC(h:Pc v18 v1=some v2):sP 152 [(.agg (P4 v18)),(Z5 v1)] [] (Wm v2 20000) [(Wt 20000 v2.length)]:=
 sG Tryz.func152 λΓ q=>have hΓ:=q.own;gR q Fd [2] rK [] (c1 (Dp 1 Aq (0:Int))) (tB h λx40 y40 h=>gS y40 (λ(s_:jZ)=>match s_ with|(l1,l2)=>0) (λ(s_:jZ)=>match s_ with|(l1,l2)=>(⟨[LP,(5,(Wm l1 13)),(6,(.vsl 21 l2.length))],[(RM (rv v18)),(Wt 13 l1.length),(Z4 21 l2)],[]⟩:St)) (λr_=>aR (WM Γ v18 v1 r_)) (λy h=>tB h λx3 y3 h=>tT q CO [2,13] [⟨[],[(20000,13)],(Wm x3 20000),[(Wt 20000 x3.length)],[],[]⟩] (c1 (Uz y3)) (Ak q [1,2,5,16] [2,13] (gC h (λh=>gR q [4] [] rK [] (c1 (Dp 1 Aq (0:Int))) (Td (⟨rK,[],[]⟩:St) (tS h (WI (O8 (J1 [(6004,20000)] (show Le Γ _ ss from Le.trans (Cw (st':=⟨rK,[],[]⟩) [4] [] q) (Le.trans (PM (t:=4) (nm:=6004) (sz':=1) (λi=>Aq (([]:Au).getD i 0)) 3 rfl rfl (.inl ⟨rfl,rfl⟩) (λh_=>absurd h_ (by decide))) (Cw (st':=ss) [4] [6004] q))))))))) λh=>tB h λx4 y4 h=>gR q [1,2,5,6] L6 [(17,(AV.list 1 Aq 0 ([(-2:Int)]:Au) .exact))] [⟨[],[(20000,21)],(.vsl 20000 x4.length),[(Z4 20000 x4)],[],[]⟩] (c2 (Bx 1 Aq (0:Int) ([(-2:Int)]:Au)) (Q2 y4)) (tC h λc5_ h=>tU q Xq L6 (c2 c5_ (Eq.refl x4.length)) (gLe (Le.trans (Qt 21 (show ∀ k_,k_<x4.length->AVleL ((λi_=>AV.eraseAll pC ((J7 (λi=>Aq (x4.getD i 0)) v1.toNat 0 [(.int .i64 (-1:Int))]) i_)) k_) ((λi=>Aq ((x4.set v1.toNat (-1:Int)).getD i 0)) k_) from(Bn (D8 ..).symm (λk_ hk_=>(Bi (AV.eraseAll pC) ((Gs (λ_ _=>rfl) (Ig c5_) rfl) k_ hk_)).trans rfl)))) (Pv (λ(k_:Nat) u=>(Ek u [(6,(.vsl 21 k_))] [(21,.arr 1 3 k_ (λi=>Aq ((x4.set v1.toNat (-1:Int)).getD i 0)))])) (show x4.length=(x4.set v1.toNat (-1:Int)).length from(D8 ..).symm))) (Ak q OL L6 (tC h λc6_ h=>gR q Xn L6 [(26,(AV.list 1 Aq 0 (x3.drop (1:Int).toNat) .none))] [] (c2 c6_ (show(AVle (.slice 1 (x3.length-(1:Int).toNat) (λi=>Aq (x3.getD ((1:Int).toNat+i) 0)) .none) (AV.list 1 Aq 0 (x3.drop (1:Int).toNat) .none)) from aw)) (tL q h Xn L6 (λu (b7,i8,l9)=>(Ek u [(6,(.vsl 21 l9.length)),(7,(.bool b7)),(28,(Z5 i8))] [(Z4 21 l9)])) (λu (b10,l11)=>aG Γ (.exit 0) (T9 OL L6 u [(6,(.vsl 21 l11.length)),(7,(.bool b10))] [(Z4 21 l11)])) (λ⟨b7,i8,l9⟩ y h=>Ak q jk L6 (gC h (λh=>tB h λx19 y19 h=>gJ y19 (λ(b12,l13)=>aG Γ .normal (⟨[LP,(5,(Wm x3 13)),(6,(.vsl 21 l13.length)),(7,(.bool b12)),(26,(AV.list 1 Aq 0 (x3.drop (1:Int).toNat) .none)),(27,(.int .i64 ((x3.drop (1:Int).toNat).length:Int))),(28,(Z5 i8))],[(RM (rv v18)),(Wt 13 x3.length),(Z4 21 l13)],[]⟩:St)) (λy h=>tV q jl L6 h λh=>tC h λc15_ h=>tB h λx16 y16 h=>tT q jh L6 [⟨[],[],(Z5 x16),[],[21],[]⟩] (c4 c15_ (Uy y16) (show(Ww []) from trivial) (Eq.refl l9.length)) (tC h λc17_ h=>tU q je L6 (c2 c17_ (Eq.refl l9.length)) (gC h (λh=>tC h λc18_ h=>tU q Xn L6 (c2 c18_ (Eq.refl l9.length)) (tS h (gK (C3 (Le.trans (Le.trans (Qt 21 (show ∀ k_,k_<l9.length->AVleL ((λi_=>AV.eraseAll pC ((J7 (λi=>Aq (l9.getD i 0)) (rJ x3 i8).toNat 0 [(Z5 x16)]) i_)) k_) ((λi=>Aq ((l9.set (rJ x3 i8).toNat x16).getD i 0)) k_) from(Bn (D8 ..).symm (λk_ hk_=>(Bi (AV.eraseAll pC) ((Gs (λ_ _=>rfl) (Ig c18_) rfl) k_ hk_)).trans rfl)))) (Pv (λ(k_:Nat) u=>(Ek u [(6,(.vsl 21 k_))] [(21,.arr 1 3 k_ (λi=>Aq ((l9.set (rJ x3 i8).toNat x16).getD i 0)))])) (show l9.length=(l9.set (rJ x3 i8).toNat x16).length from(D8 ..).symm))) Mf))))) λh=>tS h (gK (C3 (Cw Xn L6 q)))))) (match x19,h with|⟨b12,l13⟩,h=>gA (Ak q Xn L6 (tN h)))) λh=>tS h (gO (C3 (Cw OL L6 q))))) λx21 h=>(match x21,h with|⟨b10,l11⟩,h=>gA (Ak q [2,5,6,50] L6 (gC h (λh=>tS h (XM (Cw Xq L6 q))) λh=>Ak q [4] [21] (Td (⟨[(4,(.vsl 21 l11.length))],[(Z4 21 l11)],[]⟩:St) (tS h (WI (O8 (J1 [(21,20000)] (Le.trans (le_freeze (nm:=21) (sz:=1) (n:=l11.length) (e:=3) (f:=(λi=>Aq (l11.getD i 0))) (g:=(λi=>Aq (l11.getD i 0))) rfl ⟨rfl,trivial⟩ (λ_ _=>rfl) (by rw[hΓ];rfl)) (I7 (st':=⟨[(4,(Wm l11 21))],[(Wt 21 l11.length)],[]⟩) (by kernel_rfl))))))))))))))))))) (λ⟨l1,l2⟩ y h=>Ak q OL L6 (tC h λc23_ h=>gR q Xn L6 [(26,(AV.list 1 Aq 0 (l1.drop (1:Int).toNat) .none))] [] (c2 c23_ (show(AVle (.slice 1 (l1.length-(1:Int).toNat) (λi=>Aq (l1.getD ((1:Int).toNat+i) 0)) .none) (AV.list 1 Aq 0 (l1.drop (1:Int).toNat) .none)) from aw)) (tL q h Xn L6 (λu (b24,i25,l26)=>(Ek u [(6,(.vsl 21 l26.length)),(7,(.bool b24)),(28,(Z5 i25))] [(Z4 21 l26)])) (λu (b27,l28)=>aG Γ (.exit 0) (T9 OL L6 u [(6,(.vsl 21 l28.length)),(7,(.bool b27))] [(Z4 21 l28)])) (λ⟨b24,i25,l26⟩ y h=>Ak q jk L6 (gC h (λh=>tB h λx36 y36 h=>gJ y36 (λ(b29,l30)=>aG Γ .normal (⟨[LP,(5,(Wm l1 13)),(6,(.vsl 21 l30.length)),(7,(.bool b29)),(26,(AV.list 1 Aq 0 (l1.drop (1:Int).toNat) .none)),(27,(.int .i64 ((l1.drop (1:Int).toNat).length:Int))),(28,(Z5 i25))],[(RM (rv v18)),(Wt 13 l1.length),(Z4 21 l30)],[]⟩:St)) (λy h=>tV q jl L6 h λh=>tC h λc32_ h=>tB h λx33 y33 h=>tT q jh L6 [⟨[],[],(Z5 x33),[],[21],[]⟩] (c4 c32_ (Uy y33) (show(Ww []) from trivial) (Eq.refl l26.length)) (tC h λc34_ h=>tU q je L6 (c2 c34_ (Eq.refl l26.length)) (gC h (λh=>tC h λc35_ h=>tU q Xn L6 (c2 c35_ (Eq.refl l26.length)) (tS h (gK (C3 (Le.trans (Le.trans (Qt 21 (show ∀ k_,k_<l26.length->AVleL ((λi_=>AV.eraseAll pC ((J7 (λi=>Aq (l26.getD i 0)) (rI l1 i25).toNat 0 [(Z5 x33)]) i_)) k_) ((λi=>Aq ((l26.set (rI l1 i25).toNat x33).getD i 0)) k_) from(Bn (D8 ..).symm (λk_ hk_=>(Bi (AV.eraseAll pC) ((Gs (λ_ _=>rfl) (Ig c35_) rfl) k_ hk_)).trans rfl)))) (Pv (λ(k_:Nat) u=>(Ek u [(6,(.vsl 21 k_))] [(21,.arr 1 3 k_ (λi=>Aq ((l26.set (rI l1 i25).toNat x33).getD i 0)))])) (show l26.length=(l26.set (rI l1 i25).toNat x33).length from(D8 ..).symm))) Mf))))) λh=>tS h (gK (C3 (Cw Xn L6 q)))))) (match x36,h with|⟨b29,l30⟩,h=>gA (Ak q Xn L6 (tN h)))) λh=>tS h (gO (C3 (Cw OL L6 q))))) λx38 h=>(match x38,h with|⟨b27,l28⟩,h=>gA (Ak q [2,5,6,50] L6 (gC h (λh=>tS h (XM (Cw Xq L6 q))) λh=>Ak q [4] [21] (Td (⟨[(4,(.vsl 21 l28.length))],[(Z4 21 l28)],[]⟩:St) (tS h (WI (O8 (J1 [(21,20000)] (Le.trans (le_freeze (nm:=21) (sz:=1) (n:=l28.length) (e:=3) (f:=(λi=>Aq (l28.getD i 0))) (g:=(λi=>Aq (l28.getD i 0))) rfl ⟨rfl,trivial⟩ (λ_ _=>rfl) (by rw[hΓ];rfl)) (I7 (st':=⟨[(4,(Wm l28 21))],[(Wt 21 l28.length)],[]⟩) (by kernel_rfl)))))))))))))) (Uq (λst' hk=>tS h (gK hk))))
def Lc(aa9:List A4)(aaA:Au):Int->Option (LR Int (Unit ⊕ Bool)):=
 λ(i1:Int)=>(bif (decide (i1<(aa9.length:Int))) then(Bh (Bl i1 aa9.length) ((Er ((aa9.getD i1.toNat default).From) aaA).bind λx3=>(bif (bif (!x3) then true else((((aa9.getD i1.toNat default).Args).length:Int)!=(aaA.length:Int))) then(some (.done (.inr false))) else(some (.next (Ay (i1+1))))))) else(some (.done (.inl ()))))
def EL(Γ:G2)(aa9:List A4)(aaA:Au)(r:Bool):Exit->St->Prop:=fK Tryz.prog Γ Tryz.f153.results.toList [] (.bool r) []
def K0(aa9:List A4)(aaA:Au):Option Bool:=
 ((Af (Lc aa9 aaA) (0:Int)).bind (λx4=>(match x4 with|(.inl _)=>(some true)|(.inr r6)=>(some r6))))
theorem BN(h:K0 v5 v2=some v3):sP 153 [(pF v5),(L8 v2)] [] (.bool v3) []:=
 sG Tryz.func153 λΓ q=>tW q Fc [] Je [] (tL q h Je [] (λu i1=>(Ek u [(9,(Z5 i1))] [])) (λu x_=>match x_ with|(.inl _)=>aG Γ (.exit 0) (⟨[],[],[]⟩:St)|(.inr r_)=>aR (EL Γ v5 v2 r_)) (λi1 y h=>Ak q EH [] (gC h (λh=>tV q EI [6] h λh=>tB h λx3 y3 h=>tT q [1,7,8,9,25] [] [(Z6 x3)] (ci (Lr y3) (pH ((!x3)==false) (c1 (FM (!x3))))) (gC h (λh=>Ak q [4] [] (tS h (gO (O8 (J1 [] (Le.refl _ _)))))) λh=>Ak q Je [] (tN h))) λh=>tS h (gO (C3 (Cw [] [] q))))) λx4 h=>(match x4,h with | .inl _,h=>gA (Ak q [4] [] (tS h (Dm []))) | .inr r6,h=>Uq (λst' hk=>tS h (gK hk))))
def su(aH:F4):=(bif (aH.Kind==0) then true else(aH.Kind==2))
def Kz(aH:F4):Option Bool:=
 (some (bif (bif (aH.Kind==0) then true else(aH.Kind==2)) then true else(aH.Arg==0)))
theorem BM(h:Kz v8=some v3):sP 154 [(.agg (gi v8))] [] (.bool v3) []:=
 sG Tryz.func154 λΓ q=>Ak q [1] [1] (tU q [2] [] (V4 ((v8.Kind==0)==false) (ci (FM (v8.Kind==0)) (V4 ((su v8)==false) (c1 (FM (su v8)))))) (tS h (Dm [])))
def Cr(a0:Ab)(a4:Int)(a7:List A6)(x1:pK)(x3:Au):Int->Option (LR Int (Unit ⊕ (Int×Ab×Int×Au×List A6))):=
 λ(i4:Int)=>(bif (decide (i4<(a0.Blocks.length:Int))) then(Bh (Bl i4 a0.Blocks.length) (Bh (Bl i4 x1.1.Pred.length) ((K0 ((a0.Blocks.getD i4.toNat default).Phis) (x1.1.Pred.getD i4.toNat [])).bind λx7=>((bif ((!x7)==false) then Kz (⟨(a0.Blocks.getD i4.toNat default).End.Kind,(a0.Blocks.getD i4.toNat default).End.Arg,(a0.Blocks.getD i4.toNat default).End.To⟩:F4) else some false).bind λx8=>(bif (bif (!x7) then true else(!x8)) then(some (.done (.inr ((5:Int),a0,a4,x3,a7)))) else(some (.next (Ay (i4+1))))))))) else(some (.done (.inl ()))))
def Sa(Γ:G2)(a0:Ab)(a4:Int)(a5:Au)(a7:List A6)(r:eC):Exit->St->Prop:=fK Tryz.prog Γ Tryz.f105.results.toList (Z3 a0.Params a0.Ret a0.Blocks a4 a5 a7 a7.length) (Z5 r.1) (Z3 r.2.1.Params r.2.1.Ret r.2.1.Blocks r.2.2.1 r.2.2.2.1 r.2.2.2.2 r.2.2.2.2.length)
def rx(x1:pK):=((x1.2 !=0)==false)
def sv(x3:Au)(a0:Ab)(a4:Int)(a7:List A6):List KE:=[(Wt 31 x3.length),(30000,.row 102 [(L8 a0.Params),(Z5 a0.Ret),(RJ a0.Blocks),(Z5 a4),(L8 x3),.nilm,(AV.list 5 Ka default a7 (.own 37006))]),(Lm 37006 211 a7.length)]
def rL(x3:Au)(a0:Ab)(a4:Int)(a7:List A6):List KE:=[(Wt 31 x3.length),(30000,.row 102 [(L8 a0.Params),(Z5 a0.Ret),(RJ a0.Blocks),(Z5 a4),(Wm x3 31),.nilm,(AV.list 5 Ka default a7 (.own 37006))]),(Lm 37006 211 a7.length)]
def Ga(a0:Ab)(a4:Int)(a5:Au)(a7:List A6):Option eC:=
 ((Pd a0).bind λx1=>((bif ((x1.2 !=0)==false) then Hu x1.1 (0:Int) else some []).bind λx2=>(bif (bif (x1.2 !=0) then true else(decide ((x2.length:Int)<(a0.Blocks.length:Int)))) then(some ((5:Int),a0,a4,a5,a7)) else((Pc x1.1 (0:Int)).bind λx3=>((Af (Cr a0 a4 a7 x1 x3) (0:Int)).bind (λx9=>(match x9 with|(.inl _)=>(some ((0:Int),a0,a4,x3,a7))|(.inr r11)=>(some r11))))))))
theorem Rm(h:Ga v0 v1 v2 v12=some v13):sP 105 fM (Z3 v0.Params v0.Ret v0.Blocks v1 v2 v12 v12.length) (Z5 v13.1) (Z3 v13.2.1.Params v13.2.1.Ret v13.2.1.Blocks v13.2.2.1 v13.2.2.2.1 v13.2.2.2.2 v13.2.2.2.2.length):=
 sG Tryz.func105 λΓ q=>Ak q [0] F7 (tB h λx1 y1 h=>tT q Vw VX [⟨[],[],(.tuple [(.agg (P4 x1.1)),(Z5 x1.2)]),[],[],[]⟩] (c1 (DL y1)) (tB h λx2 y2 h=>tT q [0,3,28] VX [⟨[],[],(L8 x2),[],[],[]⟩] (kA (gI (rx x1)) (show((rx x1)=true->(sP 151 [(.agg (P4 x1.1)),Kk] [] (L8 x2) [])) from(λhg=>(Spec.drop (Uz (Db hg y2))))) (tR (rx x1) (c1 (FM (x1.2 !=0))))) (gC h (λh=>Ak q [2] F7 (tS h (Dm EX))) λh=>tB h λx3 y3 h=>tT q Qq OD [⟨[],[(20000,31)],(Wm x3 20000),[(Wt 20000 x3.length)],[],[]⟩] (c1 (UC y3)) (Ak q ZX OD (tL q h ZX OD (λu i4=>(Ek u [(40,(Z5 i4))] [])) (λu x_=>match x_ with|(.inl _)=>aG Γ (.exit 0) (T9 [] OH u [] [])|(.inr r_)=>aR (Sa Γ v0 v1 v2 v12 r_)) (λi4 y h=>Ak q [3,38,39,40,41] OD (gC h (λh=>tV q [3,5,6,38,39,40] [3,6,31,30000,37006] h λh=>tC h λc6_ h=>tB h λx7 y7 h=>tB h λx8 y8 h=>tT q [3,38,39,40,59] OD [(Z6 x7),(Z6 x8)] (kA c6_ (BN y7) (V4 ((!x7)==false) (c3 (λ(hg:((!x7)==false)=true)=>(BM (Db hg y8))) (gI ((!x7)==false)) (FM (!x7))))) (gC h (λh=>Ak q [2] OH (Td (⟨[(2,(.int .i64 (5:Int)))],(rL x3 v0 v1 v12),[]⟩:St) (tS h (gO (O8 (J1 EX (show Le Γ _ (⟨[(2,(.int .i64 (5:Int)))],(sv x3 v0 v1 v12),[]⟩:St) from Le.trans (Cw (st':=⟨[(2,(.int .i64 (5:Int)))],(rL x3 v0 v1 v12),[]⟩) [2] OH q) (Re (.cons (AVle.refl _) .nil) (.same (.row (.cons (AVle.refl _) (.cons (AVle.refl _) (.cons (AVle.refl _) (.cons (AVle.refl _) (.cons AVle.untag (.cons (AVle.refl _) (.cons (AVle.refl _) .nil))))))) (.same .nil))))))))))) λh=>Ak q ZX OD (tN h))) λh=>tS h (gO (C3 (Cw [] OH q))))) λx9 h=>(match x9,h with | .inl _,h=>gA (Ak q [2] OH (Td (⟨[(2,Kk)],(rL x3 v0 v1 v12),[]⟩:St) (tS h (gK (e:=.ret) (J1 EX (show Le Γ _ (⟨[(2,Kk)],(sv x3 v0 v1 v12),[]⟩:St) from Le.trans (Cw (st':=⟨[(2,Kk)],(rL x3 v0 v1 v12),[]⟩) [2] OH q) (Re (.cons (AVle.refl _) .nil) (.same (.row (.cons (AVle.refl _) (.cons (AVle.refl _) (.cons (AVle.refl _) (.cons (AVle.refl _) (.cons AVle.untag (.cons (AVle.refl _) (.cons (AVle.refl _) .nil))))))) (.same .nil)))))))))) | .inr r11,h=>Uq (λst' hk=>tS h (gK hk))))))))
def Hv(aL:Int):Option Bool:=
 (Option.bind (α:=Bool) (bif (aL==1) then(some (aL==1)) else(bif (aL==8) then(some (aL==8)) else(bif (aL==16) then(some (aL==16)) else(bif (aL==32) then(some (aL==32)) else(some (aL==64)))))) (λx2=>(bif x2 then(some true) else(some false))))
theorem Ju(h:Hv v1=some v3):sP 156 [(Z5 v1)] [] (.bool v3) []:=
 sG Tryz.func156 λΓ q=>tW q [0] [] [3] [] (tB h λx2 y2 h=>gJ y2 (λb1=>aG Γ .normal (⟨[(4,(.bool b1))],[],[]⟩:St)) (λy h=>Ak q [3,4] [] (gC h (λh=>tS h (gK (C3 (Cw [4] [] q)))) λh=>Ak q [3,4] [] (gC h (λh=>tS h (gK (C3 (Cw [4] [] q)))) λh=>Ak q [3,4] [] (gC h (λh=>tS h (gK (C3 (Cw [4] [] q)))) λh=>Ak q [3,4] [] (gC h (λh=>tS h (gK (C3 (Cw [4] [] q)))) λh=>Ak q [4] [] (tS h (gK (C3 Mf)))))))) (gA (gC h (λh=>Ak q [2] [] (tS h (Dm []))) λh=>Ak q [2] [] (tS h (Dm [])))))
def Lb(a6:Au):Int->Option (LR Int (Unit ⊕ Bool)):=
 λ(i1:Int)=>(bif (decide (i1<(a6.length:Int))) then(Bh (Bl i1 a6.length) ((Hv (a6.getD i1.toNat 0)).bind λx3=>(bif (!x3) then(some (.done (.inr false))) else(some (.next (Ay (i1+1))))))) else(some (.done (.inl ()))))
def EK(Γ:G2)(a6:Au)(r:Bool):Exit->St->Prop:=fK Tryz.prog Γ Tryz.f155.results.toList [] (.bool r) []
def Ky(a6:Au):Option Bool:=
 ((Af (Lb a6) (0:Int)).bind (λx4=>(match x4 with|(.inl _)=>(some true)|(.inr r6)=>(some r6))))
theorem BL(h:Ky v2=some v3):sP 155 [(L8 v2),(.clo 156 [] [])] [] (.bool v3) []:=
 sG Tryz.func155 λΓ q=>tW q Fc [] Je [] (tL q h Je [] (λu i1=>(Ek u [(9,(Z5 i1))] [])) (λu x_=>match x_ with|(.inl _)=>aG Γ (.exit 0) (⟨[],[],[]⟩:St)|(.inr r_)=>aR (EK Γ v2 r_)) (λi1 y h=>Ak q EH [] (gC h (λh=>tV q EI [] h λh=>tB h λx3 y3 h=>tT q KA [] [(Z6 x3)] (c1 (Ju y3)) (gC h (λh=>Ak q [4] [] (tS h (gO (O8 (J1 [] (Le.refl _ _)))))) λh=>Ak q Je [] (tN h))) λh=>tS h (gO (C3 (Cw [] [] q))))) λx4 h=>(match x4,h with | .inl _,h=>gA (Ak q [4] [] (tS h (Dm []))) | .inr r6,h=>Uq (λst' hk=>tS h (gK hk))))
def M9(aS:A4):Option Bool:=
 ((Hv aS.Bits).bind λx1=>(some x1))
theorem Zm(h:M9 v4=some v3):sP 200 [(.agg (Ee v4))] [] (.bool v3) []:=
 sG Tryz.func200 λΓ q=>Ak q [1] [1] (tB h λx1 y1 h=>tT q [2] [] [(Z6 x1)] (c1 (Ju y1)) (tS h (Dm [])))
def Ii(a6:List A4):Int->Option (LR Int (Unit ⊕ Bool)):=
 λ(i1:Int)=>(bif (decide (i1<(a6.length:Int))) then(Bh (Bl i1 a6.length) ((M9 (a6.getD i1.toNat default)).bind λx3=>(bif (!x3) then(some (.done (.inr false))) else(some (.next (Ay (i1+1))))))) else(some (.done (.inl ()))))
def Wl(Γ:G2)(a6:List A4)(r:Bool):Exit->St->Prop:=fK Tryz.prog Γ Tryz.f199.results.toList [] (.bool r) []
def H0(a6:List A4):Option Bool:=
 ((Af (Ii a6) (0:Int)).bind (λx4=>(match x4 with|(.inl _)=>(some true)|(.inr r6)=>(some r6))))
theorem Uw(h:H0 v5=some v3):sP 199 [(pF v5),(.clo 200 [] [])] [] (.bool v3) []:=
 sG Tryz.func199 λΓ q=>tW q Fc [] Je [] (tL q h Je [] (λu i1=>(Ek u [(9,(Z5 i1))] [])) (λu x_=>match x_ with|(.inl _)=>aG Γ (.exit 0) (⟨[],[],[]⟩:St)|(.inr r_)=>aR (Wl Γ v5 r_)) (λi1 y h=>Ak q EH [] (gC h (λh=>tV q EI [6] h λh=>tB h λx3 y3 h=>tT q KA [] [(Z6 x3)] (c1 (Zm y3)) (gC h (λh=>Ak q [4] [] (tS h (gO (O8 (J1 [] (Le.refl _ _)))))) λh=>Ak q Je [] (tN h))) λh=>tS h (gO (C3 (Cw [] [] q))))) λx4 h=>(match x4,h with | .inl _,h=>gA (Ak q [4] [] (tS h (Dm []))) | .inr r6,h=>Uq (λst' hk=>tS h (gK hk))))
def Kp(aV:Int):Option Bool:=
 (some (bif (decide ((0:Int)<=aV)) then(decide (aV<=22)) else false))
theorem U2(h:Kp v1=some v3):sP 145 [(Z5 v1)] [] (.bool v3) []:=
 sG Tryz.func145 λΓ q=>Ak q [0] [] (tU q [2] [] (c2 (gI ((decide ((0:Int)<=v1))==true)) (P5 (decide ((0:Int)<=v1)))) (tS h (Dm [])))
def sx(x5:Bool)(aL:Int):=(bif x5 then(decide ((8:Int)<=aL)) else false)
def Oy(aL:Int)(aa8:Int):Option Bool:=
 (bif (aa8==1) then((Hv aL).bind λx1=>(some x1)) else(Option.bind (α:=Bool) (bif (aa8==2) then(some (aa8==2)) else(bif (aa8==4) then(some (aa8==4)) else(bif (aa8==8) then(some (aa8==8)) else(some (aa8==16))))) (λx3=>(bif x3 then((Hv aL).bind λx5=>(some (bif (bif x5 then(decide ((8:Int)<=aL)) else false) then(decide (((Ay (aL*aa8)):Int)<=128)) else false))) else(some false)))))
theorem LF(h:Oy v1 v11=some v3):sP 277 [(Z5 v1),(Z5 v11)] [] (.bool v3) []:=
 sG Tryz.func277 λΓ q=>tW q Fc [] Tw [] (Ak q R7 [] (gC h (λh=>tB h λx1 y1 h=>tT q [4] [] [(Z6 x1)] (c1 (Ju y1)) (tS h (Dm []))) λh=>tB h λx3 y3 h=>gJ y3 (λb2=>aG Γ .normal (⟨[(0,(Z5 v1)),(1,(Z5 v11)),(10,(.bool b2))],[],[]⟩:St)) (λy h=>Ak q [0,1,5,10] [] (gC h (λh=>tS h (gK (C3 (Cw AH [] q)))) λh=>Ak q [0,1,5,10] [] (gC h (λh=>tS h (gK (C3 (Cw AH [] q)))) λh=>Ak q [0,1,5,10] [] (gC h (λh=>tS h (gK (C3 (Cw AH [] q)))) λh=>Ak q AH [] (tS h (gK (C3 Mf))))))) (gA (gC h (λh=>tB h λx5 y5 h=>tT q [4] [] [(Z6 x5)] (rW (Ju y5) (gI (x5==true)) (P5 x5) (dK ((sx x5 v1)==true) (c1 (P5 (sx x5 v1))))) (tS h (Dm []))) λh=>Ak q [4] [] (tS h (Dm []))))))
def rM(a3:Bz):List KE:=[(1,.row 70 [(Z5 a3.Kind),(Z5 a3.Bits),(Z5 a3.Lanes),(Z5 a3.Dst),(L8 a3.Args),(.int .u64 a3.Imm)])]
def J4(a3:Bz):Option Bool:=
 (Option.bind (α:=Bool) (bif (a3.Kind==16) then(some (a3.Kind==16)) else(some (a3.Kind==17))) (λx2=>(bif x2 then(some (decide ((8:Int)<=a3.Bits))) else(Option.bind (α:=Bool) (bif (a3.Kind==18) then(some (a3.Kind==18)) else(some (a3.Kind==19))) (λx5=>(bif x5 then(some (bif (decide ((8:Int)<=a3.Bits)) then(a3.Lanes==1) else false)) else(Option.bind (α:=Bool) (bif (a3.Kind==4) then(some (a3.Kind==4)) else(bif (a3.Kind==10) then(some (a3.Kind==10)) else(bif (a3.Kind==11) then(some (a3.Kind==11)) else(bif (a3.Kind==12) then(some (a3.Kind==12)) else(bif (a3.Kind==14) then(some (a3.Kind==14)) else(bif (a3.Kind==15) then(some (a3.Kind==15)) else(some (a3.Kind==20)))))))) (λx8=>(bif x8 then(some (a3.Lanes==1)) else(Option.bind (α:=Bool) (bif (a3.Kind==21) then(some (a3.Kind==21)) else(some (a3.Kind==22))) (λx11=>(bif x11 then(some (decide ((1:Int)<a3.Lanes))) else(some true)))))))))))))
theorem Zo(h:J4 v6=some v3):sP 278 [(.agg (E4 v6))] [] (.bool v3) []:=
 sG Tryz.func278 λΓ q=>tW q [1] [1] [1,4] [1] (tB h λx2 y2 h=>gJ y2 (λb1=>aG Γ .normal (⟨[(1,(.ptr 1 0)),(4,(Z5 v6.Kind)),(5,(.bool b1))],(rM v6),[]⟩:St)) (λy h=>Ak q [1,4,5] [1] (gC h (λh=>tS h (gK (C3 Mf))) λh=>Ak q [1,4,5] [1] (tS h (gK (C3 Mf))))) (gA (gC h (λh=>Ak q [2] [] (tS h (Dm []))) λh=>tB h λx5 y5 h=>gJ y5 (λb4=>aG Γ .normal (⟨[(1,(.ptr 1 0)),(4,(Z5 v6.Kind)),(11,(.bool b4))],(rM v6),[]⟩:St)) (λy h=>Ak q [1,4,11] [1] (gC h (λh=>tS h (gK (C3 Mf))) λh=>Ak q [1,4,11] [1] (tS h (gK (C3 Mf))))) (gA (gC h (λh=>tU q [2] [] (V4 ((decide ((8:Int)<=v6.Bits))==true) (c1 (P5 (decide ((8:Int)<=v6.Bits))))) (tS h (Dm []))) λh=>tB h λx8 y8 h=>gJ y8 (λb7=>aG Γ .normal (⟨[(1,(.ptr 1 0)),(4,(Z5 v6.Kind)),(22,(.bool b7))],(rM v6),[]⟩:St)) (λy h=>Ak q Yg [1] (gC h (λh=>tS h (gK (C3 Mf))) λh=>Ak q Yg [1] (gC h (λh=>tS h (gK (C3 Mf))) λh=>Ak q Yg [1] (gC h (λh=>tS h (gK (C3 Mf))) λh=>Ak q Yg [1] (gC h (λh=>tS h (gK (C3 Mf))) λh=>Ak q Yg [1] (gC h (λh=>tS h (gK (C3 Mf))) λh=>Ak q Yg [1] (gC h (λh=>tS h (gK (C3 Mf))) λh=>Ak q Yg [1] (tS h (gK (C3 Mf)))))))))) (gA (gC h (λh=>Ak q [2] [] (tS h (Dm []))) λh=>tB h λx11 y11 h=>gJ y11 (λb10=>aG Γ .normal (⟨[(1,(.ptr 1 0)),(33,(.bool b10))],(rM v6),[]⟩:St)) (λy h=>Ak q [1,4,33] [1] (gC h (λh=>tS h (gK (C3 (Cw [1,33] [1] q)))) λh=>Ak q [1,33] [1] (tS h (gK (C3 Mf))))) (gA (gC h (λh=>Ak q [2] [] (tS h (Dm []))) λh=>Ak q [2] [] (tS h (Dm [])))))))))))
def Sw(aE:Int)(aL:Int):Option Int:=
 ((Hv aL).bind λx1=>(bif (!x1) then(some (0:Int)) else(Bh (0<=(Ay ((64:Int)-aL))) (Bh (0<=(Ay ((64:Int)-aL))) (some (Rw .u64 (iz .u64 aE (Ay ((64:Int)-aL))) (Ay ((64:Int)-aL))))))))
theorem UE(h:Sw v1 v11=some v20):sP 121 [(.int .u64 v1),(Z5 v11)] [] (.int .u64 v20) []:=
 sG Tryz.func121 λΓ q=>Ak q Fc [] (tB h λx1 y1 h=>tT q [0,1,7] [] [(Z6 x1)] (c1 (Ju y1)) (gC h (λh=>Ak q [4] [] (tS h (Dm []))) λh=>tC h λc2_ h=>tC h λc3_ h=>tU q [4] [] (c2 c2_ c3_) (tS h (Dm []))))
def Jr(aaB:Int):Option Bool:=
 ((bif ((decide (aaB<=64))==true) then Hv (Ay aaB) else some false).bind λx1=>(some (bif (decide (aaB<=64)) then x1 else false)))
theorem Tj(h:Jr v1=some v3):sP 291 [(.int .u64 v1)] [] (.bool v3) []:=
 sG Tryz.func291 λΓ q=>Ak q [0] [] (tB h λx1 y1 h=>tT q [2] [] [(Z6 x1)] (V4 ((decide (v1<=64))==true) (c2 (λ(hg:((decide (v1<=64))==true)=true)=>(Ju (Db hg y1))) (P5 (decide (v1<=64))))) (tS h (Dm [])))
def Mo(a3:Bz):Option Bool:=
 (bif (a3.Kind==0) then((Sw a3.Imm a3.Bits).bind λx1=>(some (x1==a3.Imm))) else(bif (a3.Kind==14) then((Jr a3.Imm).bind λx2=>(some (bif x2 then(decide (a3.Imm<(Ki a3.Bits))) else false))) else(bif (a3.Kind==15) then((Jr a3.Imm).bind λx3=>(some (bif x3 then(decide (((Ki a3.Bits):Int)<a3.Imm)) else false))) else(bif (a3.Kind==22) then(some (decide (a3.Imm<(Ki a3.Lanes)))) else(some (a3.Imm==0))))))
theorem EU(h:Mo v6=some v3):sP 279 [(.agg (E4 v6))] [] (.bool v3) []:=
 sG Tryz.func279 λΓ q=>tW q [1] [1] [1,4] [1] (Ak q [1,4,5] [1] (gC h (λh=>tB h λx1 y1 h=>tT q [2] [] [⟨[],[],(.int .u64 x1),[],[],[]⟩] (c1 (UE y1)) (tS h (Dm []))) λh=>Ak q [1,4,15] [1] (gC h (λh=>tB h λx2 y2 h=>tT q [2] [] [(Z6 x2)] (ci (Tj y2) (pH (x2==true) (c1 (P5 x2)))) (tS h (Dm []))) λh=>Ak q [1,4,28] [1] (gC h (λh=>tB h λx3 y3 h=>tT q [2] [] [(Z6 x3)] (ci (Tj y3) (pH (x3==true) (c1 (P5 x3)))) (tS h (Dm []))) λh=>Ak q [1,41] [1] (gC h (λh=>Ak q [2] [] (tS h (Dm []))) λh=>Ak q [2] [] (tS h (Dm [])))))))
abbrev VP:=((Int×Int))
abbrev mT:=(List (Int×Int))
def F2(aaE:List VP):Option mT:=
 (some aaE)
variable{v21:List VP}{v22:List VP}
theorem Gf(h:F2 v21=some v22):sP 282 [(kW v21)] [] (kW v22) []:=
 sG Tryz.func282 λΓ q=>gR q [0] [] [(2,rQ)] [] (c1 (Dp 2 Bu ((0:Int),(0:Int)))) (Ak q [2] [] (tS h (Dm [])))
abbrev ja:=(Int×List (Int×Int))
abbrev qr:=(LR (Int×List (Int×Int)) (List (Int×Int)))
def Ck :ja->Option qr:=
 λ((i7,l8):ja)=>(bif (decide (i7<(l8.length:Int))) then(Bh (0<=i7/\0+i7.toNat<=l8.length) (Bh (0<=i7/\0+i7.toNat<=l8.length) (some (.next ((Ay (i7+((Nat.min ((0+i7.toNat)-0) (l8.length-(0+i7.toNat))):Int))),(FG l8 (0+i7.toNat) (Nat.min ((0+i7.toNat)-0) (l8.length-(0+i7.toNat))) (λi=>l8.getD (0+i) ((0:Int),(0:Int))))))))) else(some (.done l8)))
def fC(x3:Gu):=(List.replicate (Ay x3.2).toNat ((0:Int),(0:Int)))
def rz(x3:Gu)(aA:List VP):=(FG (fC x3) 0 (Nat.min aA.length ((fC x3).length-0)) (λi=>aA.getD i ((0:Int),(0:Int))))
def ry(l8:List VP)(i7:Int):=(FG l8 (0+i7.toNat) (Nat.min ((0+i7.toNat)-0) (l8.length-(0+i7.toNat))) (λi=>l8.getD (0+i) ((0:Int),(0:Int))))
def Bv(aA:List VP)(aa6:Int):Option mT:=
 (Option.bind (α:=Unit) (bif (decide (aa6<0)) then none else(some ())) (λx1=>(match x1 with|_=>((M8 (Ki (aA.length:Int)) (Ki aa6)).bind λx3=>(Option.bind (α:=Unit) (bif (bif (decide ((0:Int)<x3.1)) then true else(decide ((9223372036854775807:Int)<x3.2))) then none else(some ())) (λx4=>(match x4 with|_=>(Bh (0<=(Ay x3.2)/\(Ay x3.2)<=(Ay x3.2)/\(Ay x3.2)<=(room:Int)) ((Af (S:=ja) (X:=List Gu) Ck (((Nat.min aA.length ((List.replicate (Ay x3.2).toNat ((0:Int),(0:Int))).length-0)):Int),(FG (List.replicate (Ay x3.2).toNat ((0:Int),(0:Int))) 0 (Nat.min aA.length ((List.replicate (Ay x3.2).toNat ((0:Int),(0:Int))).length-0)) (λi=>aA.getD i ((0:Int),(0:Int)))))).bind (λx12=>(some x12)))))))))))
theorem Ob(h:Bv v21 v1=some v22):sP 283 [(kW v21),(Z5 v1)] [] (AV.list 2 Bu ((0:Int),(0:Int)) v22 (.own 20000)) [(20000,.tok 2 90 v22.length)]:=
 sG Tryz.func283 λΓ q=>have hΓ:=q.own;gR q Fc [] [(4,rQ)] [] (c1 (Dp 2 Bu ((0:Int),(0:Int)))) (tB h λx1 y1 h=>gJ y1 (λ_=>aG Γ .normal (⟨[(0,(kW v21)),(1,(Z5 v1))],[],[]⟩:St)) (λy h=>Ak q AH [] (gC h (λh=>nomatch h) λh=>tS h (gK (C3 (Cw Fc [] q))))) (gA (tB h λx3 y3 h=>tT q [0,5,6] [] [⟨[],[],(.tuple (nr x3.1 x3.2)),[],[],[]⟩] (c1 (DJ y3)) (tB h λx4 y4 h=>gJ y4 (λ_=>aG Γ .normal (⟨[(0,(kW v21)),(6,(.int .u64 x3.2))],[],[]⟩:St)) (λy h=>tU q [0,6,26] [] (c2 (gI ((decide ((0:Int)<x3.1))==false)) (FM (decide ((0:Int)<x3.1)))) (gC h (λh=>nomatch h) λh=>tS h (gK (C3 (Cw [0,6] [] q))))) (gA (tV q [0,7] [30] h λh=>by exact gLe (Le.trans (Qt 30 (show ∀ k_,k_<((Ay x3.2).toNat)->AVleL ((λi_=>AV.eraseAll (λn_=>Bw n_ [30]) ((λ_=>[Kk,Kk]) i_)) k_) ((λi=>Bu ((fC x3).getD i ((0:Int),(0:Int)))) k_) from(λk hk=>Nn (e:=Bu) (d:=((0:Int),(0:Int))) (.cons (AVle.refl _) (.cons (AVle.refl _) .nil)) _ k (Nq hk)))) (Pv (λ(k_:Nat) u=>(Ek u [(7,(.vsl 30 k_))] [(30,.arr 2 90 k_ (λi=>Bu ((fC x3).getD i ((0:Int),(0:Int)))))])) (show(Ay x3.2).toNat=(fC x3).length from(N7 ..).symm))) (tU q [7,8] [30] (c1 (Eq.refl ((fC x3).length))) (gLe (Le.trans (Qt 30 (show ∀ k_,k_<((fC x3).length)->AVleL ((λi_=>AV.eraseAll (λn_=>Bw n_ [30]) ((LY (λi=>Bu ((fC x3).getD i ((0:Int),(0:Int)))) 0 (Nat.min v21.length ((fC x3).length-0)) (λi=>Bu (v21.getD i ((0:Int),(0:Int))))) i_)) k_) ((λi=>Bu ((rz x3 v21).getD i ((0:Int),(0:Int)))) k_) from(Bn (Dc ..) (λk_ hk_=>(Bi (AV.eraseAll (λn_=>Bw n_ [30])) ((FF (e:=Bu) (d:=((0:Int),(0:Int))) (l:=(fC x3)) (s:=(λi=>v21.getD i ((0:Int),(0:Int)))) (λ_ _=>rfl) (λ_ _=>rfl)) k_ hk_)).trans rfl)))) (Pv (λ(k_:Nat) u=>(Ek u [(7,(.vsl 30 k_))] [(30,.arr 2 90 k_ (λi=>Bu ((rz x3 v21).getD i ((0:Int),(0:Int)))))])) (show(fC x3).length=(rz x3 v21).length from(Dc ..)))) (tL q h [7,8] [30] (λu (i7,l8)=>(Ek u [(7,(.vsl 30 l8.length)),(8,(Z5 i7))] (sQ l8))) (λu l9=>aG Γ (.exit 0) (⟨[(7,(.vsl 30 l9.length))],(sQ l9),[]⟩:St)) (λ⟨i7,l8⟩ y h=>Ak q [7,8,37] [30] (gC h (λh=>tC h λc10_ h=>tC h λc11_ h=>tU q [7,8] [30] (c4 c10_ c11_ (Eq.refl l8.length) (Eq.refl l8.length)) (tS h (gN (Le.trans (Le.trans (Qt 30 (show ∀ k_,k_<l8.length->AVleL ((λi_=>AV.eraseAll (λn_=>Bw n_ [30]) ((LY (λi=>Bu (l8.getD i ((0:Int),(0:Int)))) (0+i7.toNat) (Nat.min ((0+i7.toNat)-0) (l8.length-(0+i7.toNat))) (λi=>(λi=>Bu (l8.getD i ((0:Int),(0:Int)))) (0+i))) i_)) k_) ((λi=>Bu ((ry l8 i7).getD i ((0:Int),(0:Int)))) k_) from(Bn (Dc ..) (λk_ hk_=>(Bi (AV.eraseAll (λn_=>Bw n_ [30])) ((FF (e:=Bu) (d:=((0:Int),(0:Int))) (l:=l8) (s:=(λi=>l8.getD (0+i) ((0:Int),(0:Int)))) (λ_ _=>rfl) (λ_ _=>rfl)) k_ hk_)).trans rfl)))) (Pv (λ(k_:Nat) u=>(Ek u [(7,(.vsl 30 k_))] [(30,.arr 2 90 k_ (λi=>Bu ((ry l8 i7).getD i ((0:Int),(0:Int)))))])) (show l8.length=(ry l8 i7).length from(Dc ..)))) Mf)))) λh=>tS h (gO (C3 (Cw [7] [30] q))))) λx12 h=>gA (Ak q [4] [30] (Td (⟨[(4,(.vsl 30 x12.length))],(sQ x12),[]⟩:St) (tS h (gK (e:=.ret) (J1 [(30,20000)] (Le.trans (le_freeze (nm:=30) (sz:=2) (n:=x12.length) (e:=90) (f:=(λi=>Bu (x12.getD i ((0:Int),(0:Int))))) (g:=(λi=>Bu (x12.getD i ((0:Int),(0:Int))))) rfl ⟨rfl,trivial⟩ (λ_ _=>rfl) (by rw[hΓ];rfl)) (I7 (st':=⟨[(4,(AV.list 2 Bu ((0:Int),(0:Int)) x12 (.own 30)))],[(30,.tok 2 90 x12.length)],[]⟩) (by kernel_rfl)))))))))))))))))
def sy(a3:Bz):List KE:=[(1,.row 70 [(Z5 a3.Kind),(Z5 a3.Bits),(Z5 a3.Lanes),(Z5 a3.Dst),(L8 a3.Args),(.int .u64 a3.Imm)]),(3,.row 90 [kZ,kZ]),(4,.row 90 [(.int .i64 (64:Int)),kZ]),(5,.row 90 [(Z5 a3.Bits),(Z5 a3.Lanes)]),(6,.row 90 [(Z5 a3.Bits),kZ])]
def Mp(a3:Bz):Option mT:=
 (bif (a3.Kind==0) then((F2 ([]:List Gu)).bind λx1=>(some x1)) else(bif (a3.Kind==13) then((F2 ([((1:Int),(1:Int)),(a3.Bits,a3.Lanes),(a3.Bits,a3.Lanes)]:List Gu)).bind λx2=>(some x2)) else(Option.bind (α:=Bool) (bif (a3.Kind==14) then(some (a3.Kind==14)) else(some (a3.Kind==15))) (λx4=>(bif x4 then((F2 ([((Ay a3.Imm),(1:Int))]:List Gu)).bind λx6=>(some x6)) else(bif (a3.Kind==16) then((F2 ([((64:Int),(1:Int))]:List Gu)).bind λx7=>(some x7)) else(bif (a3.Kind==17) then((F2 ([((64:Int),(1:Int)),(a3.Bits,a3.Lanes)]:List Gu)).bind λx8=>(some x8)) else(Option.bind (α:=Bool) (bif (a3.Kind==18) then(some (a3.Kind==18)) else(some (a3.Kind==19))) (λx10=>(bif x10 then((F2 ([((1:Int),(1:Int)),((64:Int),(1:Int)),(a3.Bits,(1:Int))]:List Gu)).bind λx12=>(some x12)) else(bif (a3.Kind==20) then((F2 ([((1:Int),(1:Int)),(a3.Bits,(1:Int)),(a3.Bits,(1:Int)),(a3.Bits,(1:Int))]:List Gu)).bind λx13=>(some x13)) else(bif (a3.Kind==21) then((Bv ([(a3.Bits,(1:Int))]:List Gu) a3.Lanes).bind λx14=>((F2 x14).bind λx15=>(some x15))) else(bif (a3.Kind==22) then((F2 ([(a3.Bits,a3.Lanes)]:List Gu)).bind λx16=>(some x16)) else((F2 ([(a3.Bits,a3.Lanes),(a3.Bits,a3.Lanes)]:List Gu)).bind λx17=>(some x17)))))))))))))))
theorem W6(h:Mp v6=some v21):sP 244 [(.agg (E4 v6))] [] (kW v21) []:=
 sG Tryz.func244 λΓ q=>gR q [1] [1] [(2,rQ)] [] (c1 (Dp 2 Bu ((0:Int),(0:Int)))) (tW q [1,3,4] [1,3,4] Vv Vv (tW q [1,3,4,5,6,18] Vv [1,3,4,5,6,18,19] Vv (gC h (λh=>tB h λx1 y1 h=>tT q [2] [] [(ck x1)] (c1 (show(sP 282 [Ws] [] (kW x1) []) from(Spec.args (.cons kl .nil) (Gf y1)))) (tS h (Dm []))) λh=>Ak q [1,3,4,5,6,18,22] Vv (gC h (λh=>tB h λx2 y2 h=>gR q [2] [] [(27,(AV.list 2 Bu ((0:Int),(0:Int)) ([((1:Int),(1:Int)),(v6.Bits,v6.Lanes),(v6.Bits,v6.Lanes)]:List Gu) .exact))] [(ck x2)] (c2 (Bx 2 Bu ((0:Int),(0:Int)) ([((1:Int),(1:Int)),(v6.Bits,v6.Lanes),(v6.Bits,v6.Lanes)]:List Gu)) (Gf y2)) (tS h (Dm []))) λh=>tB h λx4 y4 h=>gJ y4 (λb3=>aG Γ .normal (⟨[(1,(.ptr 1 0)),(3,(.ptr 3 0)),OT,(5,(.ptr 5 0)),(6,(.ptr 6 0)),(18,(Z5 v6.Kind)),(29,(.bool b3))],(sy v6),[]⟩:St)) (λy h=>Ak q [1,3,4,5,6,18,29] Vv (gC h (λh=>tS h (gK (C3 Mf))) λh=>Ak q [1,3,4,5,6,18,29] Vv (tS h (gK (C3 Mf))))) (gA (gC h (λh=>tB h λx6 y6 h=>gR q [2] [] [(36,(AV.list 2 Bu ((0:Int),(0:Int)) ([((Ay v6.Imm),(1:Int))]:List Gu) .exact))] [(ck x6)] (c2 (Bx 2 Bu ((0:Int),(0:Int)) ([((Ay v6.Imm),(1:Int))]:List Gu)) (Gf y6)) (tS h (Dm []))) λh=>Ak q [1,3,4,5,6,18,38] Vv (gC h (λh=>tB h λx7 y7 h=>gR q [2] [] [(41,(AV.list 2 Bu ((0:Int),(0:Int)) ([((64:Int),(1:Int))]:List Gu) .exact))] [(ck x7)] (c2 (Bx 2 Bu ((0:Int),(0:Int)) ([((64:Int),(1:Int))]:List Gu)) (Gf y7)) (tS h (Dm []))) λh=>Ak q [1,3,4,5,6,18,43] Vv (gC h (λh=>tB h λx8 y8 h=>gR q [2] [] [(47,(AV.list 2 Bu ((0:Int),(0:Int)) ([((64:Int),(1:Int)),(v6.Bits,v6.Lanes)]:List Gu) .exact))] [(ck x8)] (c2 (Bx 2 Bu ((0:Int),(0:Int)) ([((64:Int),(1:Int)),(v6.Bits,v6.Lanes)]:List Gu)) (Gf y8)) (tS h (Dm []))) λh=>tB h λx10 y10 h=>gJ y10 (λb9=>aG Γ .normal (⟨[(1,(.ptr 1 0)),(3,(.ptr 3 0)),OT,(5,(.ptr 5 0)),(6,(.ptr 6 0)),(18,(Z5 v6.Kind)),(49,(.bool b9))],(sy v6),[]⟩:St)) (λy h=>Ak q [1,3,4,5,6,18,49] Vv (gC h (λh=>tS h (gK (C3 Mf))) λh=>Ak q [1,3,4,5,6,18,49] Vv (tS h (gK (C3 Mf))))) (gA (gC h (λh=>tB h λx12 y12 h=>gR q [2] [] [(55,(AV.list 2 Bu ((0:Int),(0:Int)) ([((1:Int),(1:Int)),((64:Int),(1:Int)),(v6.Bits,(1:Int))]:List Gu) .exact))] [(ck x12)] (c2 (Bx 2 Bu ((0:Int),(0:Int)) ([((1:Int),(1:Int)),((64:Int),(1:Int)),(v6.Bits,(1:Int))]:List Gu)) (Gf y12)) (tS h (Dm []))) λh=>Ak q [1,3,5,6,18,57] [1,3,5,6] (gC h (λh=>tB h λx13 y13 h=>gR q [2] [] [(63,(AV.list 2 Bu ((0:Int),(0:Int)) ([((1:Int),(1:Int)),(v6.Bits,(1:Int)),(v6.Bits,(1:Int)),(v6.Bits,(1:Int))]:List Gu) .exact))] [(ck x13)] (c2 (Bx 2 Bu ((0:Int),(0:Int)) ([((1:Int),(1:Int)),(v6.Bits,(1:Int)),(v6.Bits,(1:Int)),(v6.Bits,(1:Int))]:List Gu)) (Gf y13)) (tS h (Dm []))) λh=>Ak q [1,5,6,18,65] [1,5,6] (gC h (λh=>tB h λx14 y14 h=>tB h λx15 y15 h=>gR q [2] [] [(68,(AV.list 2 Bu ((0:Int),(0:Int)) ([(v6.Bits,(1:Int))]:List Gu) .exact))] [⟨[],[(20000,71)],(AV.list 2 Bu ((0:Int),(0:Int)) x14 (.own 20000)),[(20000,.tok 2 90 x14.length)],[],[]⟩,(ck x15)] (c3 (Bx 2 Bu ((0:Int),(0:Int)) ([(v6.Bits,(1:Int))]:List Gu)) (Ob y14) (Gf y15)) (tS h (Dm []))) λh=>Ak q [5,73] [5] (gC h (λh=>tB h λx16 y16 h=>gR q [2] [] [(76,(AV.list 2 Bu ((0:Int),(0:Int)) ([(v6.Bits,v6.Lanes)]:List Gu) .exact))] [(ck x16)] (c2 (Bx 2 Bu ((0:Int),(0:Int)) ([(v6.Bits,v6.Lanes)]:List Gu)) (Gf y16)) (tS h (Dm []))) λh=>tB h λx17 y17 h=>gR q [2] [] [(80,(AV.list 2 Bu ((0:Int),(0:Int)) ([(v6.Bits,v6.Lanes),(v6.Bits,v6.Lanes)]:List Gu) .exact))] [(ck x17)] (c2 (Bx 2 Bu ((0:Int),(0:Int)) ([(v6.Bits,v6.Lanes),(v6.Bits,v6.Lanes)]:List Gu)) (Gf y17)) (tS h (Dm [])))))))))))))))
def Jq(aE:Int):Option Bool:=
 (some (bif (decide ((1:Int)<=aE)) then(decide (aE<=1023)) else false))
theorem Ti(h:Jq v1=some v3):sP 292 [(Z5 v1)] [] (.bool v3) []:=
 sG Tryz.func292 λΓ q=>Ak q [0] [] (tU q [2] [] (c2 (gI ((decide ((1:Int)<=v1))==true)) (P5 (decide ((1:Int)<=v1)))) (tS h (Dm [])))
def Hg(a3:Bz):Int->Option (LR Int (Unit ⊕ Bool)):=
 λ(i2:Int)=>(bif (decide (i2<(a3.Args.length:Int))) then(Bh (Bl i2 a3.Args.length) ((Jq (a3.Args.getD i2.toNat 0)).bind λx4=>(bif (!x4) then(some (.done (.inr false))) else(some (.next (Ay (i2+1))))))) else(some (.done (.inl ()))))
def FX(Γ:G2)(a3:Bz)(r:Bool):Exit->St->Prop:=fK Tryz.prog Γ Tryz.f280.results.toList [] (.bool r) []
def Ml(a3:Bz):Option Bool:=
 ((Mp a3).bind λx1=>(bif ((a3.Args.length:Int)!=(x1.length:Int)) then(some false) else((Af (Hg a3) (0:Int)).bind (λx5=>(match x5 with|(.inl _)=>(some true)|(.inr r7)=>(some r7))))))
theorem ES(h:Ml v6=some v3):sP 280 [(.agg (E4 v6))] [] (.bool v3) []:=
 sG Tryz.func280 λΓ q=>Ak q [1] [1] (tB h λx1 y1 h=>tT q [1,11] [1] [(ck x1)] (c1 (W6 y1)) (gC h (λh=>Ak q [2] [] (tS h (Dm []))) λh=>Ak q [13,14,15] [] (tL q h [13,14,15] [] (λu i2=>(Ek u [(15,(Z5 i2))] [])) (λu x_=>match x_ with|(.inl _)=>aG Γ (.exit 0) (⟨[],[],[]⟩:St)|(.inr r_)=>aR (FX Γ v6 r_)) (λi2 y h=>Ak q [13,14,15,16] [] (gC h (λh=>tV q [4,13,14,15] [] h λh=>tB h λx4 y4 h=>tT q [13,14,15,21] [] [(Z6 x4)] (c1 (Ti y4)) (gC h (λh=>Ak q [2] [] (tS h (gO (O8 (J1 [] (Le.refl _ _)))))) λh=>Ak q [13,14,15] [] (tN h))) λh=>tS h (gO (C3 (Cw [] [] q))))) λx5 h=>(match x5,h with | .inl _,h=>gA (Ak q [2] [] (tS h (Dm []))) | .inr r7,h=>Uq (λst' hk=>tS h (gK hk))))))
def s5(a3:Bz):List KE:=[(1,.row 70 [(Z5 a3.Kind),(Z5 a3.Bits),(Z5 a3.Lanes),(Z5 a3.Dst),(L8 a3.Args),(.int .u64 a3.Imm)])]
def Mn(a3:Bz):Option Gu:=
 (Option.bind (α:=Bool) (bif (a3.Kind==17) then(some (a3.Kind==17)) else(some (a3.Kind==19))) (λx2=>(bif x2 then(some ((0:Int),(0:Int))) else(Option.bind (α:=Bool) (bif (a3.Kind==10) then(some (a3.Kind==10)) else(bif (a3.Kind==11) then(some (a3.Kind==11)) else(some (a3.Kind==12)))) (λx5=>(bif x5 then(some ((1:Int),(1:Int))) else(bif (a3.Kind==22) then(some (a3.Bits,(1:Int))) else(some (a3.Bits,a3.Lanes)))))))))
theorem W5(h:Mn v6=some v19):sP 243 [(.agg (E4 v6))] [] (.tuple [(Z5 v19.1),(Z5 v19.2)]) []:=
 sG Tryz.func243 λΓ q=>tW q [1] [1] [1,5] [1] (tB h λx2 y2 h=>gJ y2 (λb1=>aG Γ .normal (⟨[(1,(.ptr 1 0)),(5,(Z5 v6.Kind)),(6,(.bool b1))],(s5 v6),[]⟩:St)) (λy h=>Ak q [1,5,6] [1] (gC h (λh=>tS h (gK (C3 Mf))) λh=>Ak q [1,5,6] [1] (tS h (gK (C3 Mf))))) (gA (gC h (λh=>Ak q R8 [] (tS h (Dm []))) λh=>tB h λx5 y5 h=>gJ y5 (λb4=>aG Γ .normal (⟨[(1,(.ptr 1 0)),(5,(Z5 v6.Kind)),(9,(.bool b4))],(s5 v6),[]⟩:St)) (λy h=>Ak q [1,5,9] [1] (gC h (λh=>tS h (gK (C3 Mf))) λh=>Ak q [1,5,9] [1] (gC h (λh=>tS h (gK (C3 Mf))) λh=>Ak q [1,5,9] [1] (tS h (gK (C3 Mf)))))) (gA (gC h (λh=>Ak q R8 [] (tS h (Dm []))) λh=>Ak q [1,13] [1] (gC h (λh=>Ak q R8 [] (tS h (Dm []))) λh=>Ak q R8 [] (tS h (Dm []))))))))
def Mm(a3:Bz):Option Bool:=
 ((Mn a3).bind λx1=>(bif (x1.1==0) then(some (a3.Dst==0)) else((Jq a3.Dst).bind λx2=>(some x2))))
theorem ET(h:Mm v6=some v3):sP 281 [(.agg (E4 v6))] [] (.bool v3) []:=
 sG Tryz.func281 λΓ q=>Ak q [1] [1] (tB h λx1 y1 h=>tT q [1,3] [1] [⟨[],[],(.tuple [(Z5 x1.1),(Z5 x1.2)]),[],[],[]⟩] (c1 (W5 y1)) (Ak q [1,11] [1] (gC h (λh=>Ak q [2] [] (tS h (Dm []))) λh=>tB h λx2 y2 h=>tT q [2] [] [(Z6 x2)] (c1 (Ti y2)) (tS h (Dm [])))))
def me(x1:Bool)(x2:Bool):=(bif (!x1) then true else(!x2))
def Nb(a3:Bz):Option Bool:=
 ((Kp a3.Kind).bind λx1=>((bif ((!x1)==false) then Oy a3.Bits a3.Lanes else some false).bind λx2=>((bif ((bif (!x1) then true else(!x2))==false) then J4 a3 else some false).bind λx3=>((bif ((bif (bif (!x1) then true else(!x2)) then true else(!x3))==false) then Mo a3 else some false).bind λx4=>(bif (bif (bif (bif (!x1) then true else(!x2)) then true else(!x3)) then true else(!x4)) then(some false) else((Ml a3).bind λx5=>((bif (x5==true) then Mm a3 else some false).bind λx6=>(some (bif x5 then x6 else false)))))))))
theorem U1(h:Nb v6=some v3):sP 241 [(.agg (E4 v6))] [] (.bool v3) []:=
 sG Tryz.func241 λΓ q=>Ak q [1] [1] (tB h λx1 y1 h=>tB h λx2 y2 h=>tB h λx3 y3 h=>tB h λx4 y4 h=>tT q [1,24] [1] [(Z6 x1),(Z6 x2),(Z6 x3),(Z6 x4)] (ci (U2 y1) (lL ((!x1)==false) (sZ (λ(hg:((!x1)==false)=true)=>(LF (Db hg y2))) (gI ((!x1)==false)) (FM (!x1)) (gI ((me x1 x2)==false)) (λ(hg:((me x1 x2)==false)=true)=>(Zo (Db hg y3))) (gI ((me x1 x2)==false)) (FM (me x1 x2)) (gI ((bif (me x1 x2) then true else(!x3))==false)) (λ(hg:((bif (me x1 x2) then true else(!x3))==false)=true)=>(EU (Db hg y4))) (c2 (gI ((bif (me x1 x2) then true else(!x3))==false)) (FM (bif (me x1 x2) then true else(!x3))))))) (gC h (λh=>Ak q [2] [] (tS h (Dm []))) λh=>tB h λx5 y5 h=>tB h λx6 y6 h=>tT q [2] [] [(Z6 x5),(Z6 x6)] (c4 (ES y5) (gI (x5==true)) (λ(hg:(x5==true)=true)=>(ET (Db hg y6))) (P5 x5)) (tS h (Dm []))))
def Ow(a3:Bz)(aP:Int):Option Bool:=
 (bif (aP==0) then(some (bif (decide (a3.Kind<=17)) then(a3.Lanes==1) else false)) else(bif (aP==1) then(some (bif (decide (a3.Kind<=20)) then(a3.Lanes==1) else false)) else(some true)))
theorem LA(h:Ow v6 v1=some v3):sP 242 [(.agg (E4 v6)),(Z5 v1)] [] (.bool v3) []:=
 sG Tryz.func242 λΓ q=>tW q Fd [2] [2,5] [2] (Ak q Xq [2] (gC h (λh=>tU q [4] [] (V4 ((decide (v6.Kind<=17))==true) (c1 (P5 (decide (v6.Kind<=17))))) (tS h (Dm []))) λh=>Ak q Q5 [2] (gC h (λh=>tU q [4] [] (V4 ((decide (v6.Kind<=20))==true) (c1 (P5 (decide (v6.Kind<=20))))) (tS h (Dm []))) λh=>Ak q [4] [] (tS h (Dm [])))))
abbrev Vg:=(Bool×Ab×Int×Au×List A6)
def Fv(a3:Bz)(a0:Ab)(a4:Int)(a5:Au)(a7:List A6):Option Vg:=
 ((Nb a3).bind λx1=>((bif (x1==true) then Ow a3 a4 else some false).bind λx2=>(some ((bif x1 then x2 else false),a0,a4,a5,a7))))
variable{v23:Vg}
theorem Q0(h:Fv v6 v0 v1 v2 v12=some v23):sP 202 [(.ptr 30000 0),(.agg (E4 v6))] (Z3 v0.Params v0.Ret v0.Blocks v1 v2 v12 v12.length) (.bool v23.1) (Z3 v23.2.1.Params v23.2.1.Ret v23.2.1.Blocks v23.2.2.1 v23.2.2.2.1 v23.2.2.2.2 v23.2.2.2.2.length):=
 sG Tryz.func202 λΓ q=>Ak q Qq VX (tB h λx1 y1 h=>tB h λx2 y2 h=>tT q [4] F7 [(Z6 x1),(Z6 x2)] (ci (U1 y1) (pH (x1==true) (c2 (λ(hg:(x1==true)=true)=>(LA (Db hg y2))) (P5 x1)))) (tS h (Dm EX)))
abbrev Oh:=(Int×Au×Int×List Ac×Int×Au×List A6)
abbrev qs:=(LR (Int×Au×Int×List Ac×Int×Au×List A6) ((Au×Int×List Ac×Int×Au×List A6) ⊕ (Bool×Ab×Int×Au×List A6)))
def E8(a6:List Bz):Oh->Option qs:=
 λ((i1,l2,i3,l4,i5,l6,l7):Oh)=>(bif (decide (i1<(a6.length:Int))) then(Bh (Bl i1 a6.length) ((Fv (a6.getD i1.toNat default) (⟨l2,i3,l4⟩:Ab) i5 l6 l7).bind λx15=>(bif (!x15.1) then(some (.done (.inr (false,x15.2.1,x15.2.2.1,x15.2.2.2.1,x15.2.2.2.2)))) else(some (.next ((Ay (i1+1)),x15.2.1.Params,x15.2.1.Ret,x15.2.1.Blocks,x15.2.2.1,x15.2.2.2.1,x15.2.2.2.2)))))) else(some (.done (.inl (l2,i3,l4,i5,l6,l7)))))
def Xr(Γ:G2)(a6:List Bz)(a0:Ab)(a4:Int)(a5:Au)(a7:List A6)(r:Vg):Exit->St->Prop:=fK Tryz.prog Γ Tryz.f201.results.toList (Z3 a0.Params a0.Ret a0.Blocks a4 a5 a7 a7.length) (.bool r.1) (Z3 r.2.1.Params r.2.1.Ret r.2.1.Blocks r.2.2.1 r.2.2.2.1 r.2.2.2.2 r.2.2.2.2.length)
def Ih(a6:List Bz)(a0:Ab)(a4:Int)(a5:Au)(a7:List A6):Option Vg:=
 ((Af (E8 a6) ((0:Int),a0.Params,a0.Ret,a0.Blocks,a4,a5,a7)).bind (λx16=>(match x16 with|(.inl (l8,i9,l10,i11,l12,l13))=>(some (true,(⟨l8,i9,l10⟩:Ab),i11,l12,l13))|(.inr r18)=>(some r18))))
theorem Wo(h:Ih v7 v0 v1 v2 v12=some v23):sP 201 [(pG v7),(.clo 202 fM [])] (Z3 v0.Params v0.Ret v0.Blocks v1 v2 v12 v12.length) (.bool v23.1) (Z3 v23.2.1.Params v23.2.1.Ret v23.2.1.Blocks v23.2.2.1 v23.2.2.2.1 v23.2.2.2.2 v23.2.2.2.2.length):=
 sG Tryz.func201 λΓ q=>tW q Fc F7 Je F7 (tL q h Je F7 (λu (i1,l2,i3,l4,i5,l6,l7)=>(Ek u [(9,(Z5 i1))] (Z3 l2 i3 l4 i5 l6 l7 l7.length))) (λu x_=>match x_ with|(.inl (l8,i9,l10,i11,l12,l13))=>aG Γ (.exit 0) (⟨[],(Z3 l8 i9 l10 i11 l12 l13 l13.length),[]⟩:St)|(.inr r_)=>aR (Xr Γ v7 v0 v1 v2 v12 r_)) (λ⟨i1,l2,i3,l4,i5,l6,l7⟩ y h=>Ak q EH F7 (gC h (λh=>tV q EI [6,30000,37006] h λh=>tB h λx15 y15 h=>tT q KA F7 [(rR x15.1 x15.2.1.Params x15.2.1.Ret x15.2.1.Blocks x15.2.2.1 x15.2.2.2.1 x15.2.2.2.2 x15.2.2.2.2.length)] (c1 (Q0 y15)) (gC h (λh=>Ak q [4] F7 (tS h (gO (O8 (J1 EX (Le.refl _ _)))))) λh=>Ak q Je F7 (tN h))) λh=>tS h (gO (C3 (Cw [] F7 q))))) λx16 h=>(match x16,h with | .inl ⟨l8,i9,l10,i11,l12,l13⟩,h=>gA (Ak q [4] F7 (tS h (Dm EX))) | .inr r18,h=>Uq (λst' hk=>tS h (gK hk))))
def sB(x1:Bool)(x2:Vg)(a5:Au):AV:=(s9 x1 x2.2.2.2.1 a5)
def sA(x1:Bool)(x2:Vg)(a0:Ab):AV:=(s9 x1 x2.2.1.Params a0.Params)
def r9(x1:Bool)(x2:Vg)(a0:Ab):AV:=(.slice 5 (bif (x1==true) then x2.2.1.Blocks.length else a0.Blocks.length) (λi=>bif (x1==true) then Bm (x2.2.1.Blocks.getD i default) else Bm (a0.Blocks.getD i default)) .none)
def Em(aK:Ac)(a0:Ab)(a4:Int)(a5:Au)(a7:List A6):Option Vg:=
 ((H0 aK.Phis).bind λx1=>((bif (x1==true) then Ih aK.Ops a0 a4 a5 a7 else some (false,(default:Ab),(0:Int),[],[])).bind λx2=>(some ((bif x1 then x2.1 else false),(⟨(bif (x1==true) then x2.2.1.Params else a0.Params),(bif (x1==true) then x2.2.1.Ret else a0.Ret),(bif (x1==true) then x2.2.1.Blocks else a0.Blocks)⟩:Ab),(bif (x1==true) then x2.2.2.1 else a4),(bif (x1==true) then x2.2.2.2.1 else a5),(bif (x1==true) then x2.2.2.2.2 else a7)))))
theorem Oz(h:Em v9 v0 v1 v2 v12=some v23):sP 158 [(.ptr 30000 0),(.agg (Bm v9))] (Z3 v0.Params v0.Ret v0.Blocks v1 v2 v12 v12.length) (.bool v23.1) (Z3 v23.2.1.Params v23.2.1.Ret v23.2.1.Blocks v23.2.2.1 v23.2.2.2.1 v23.2.2.2.2 v23.2.2.2.2.length):=
 sG Tryz.func158 λΓ q=>Ak q Qq VX (tB h λx1 y1 h=>tB h λx2 y2 h=>tT q [4] F7 [(Z6 x1),(rR x2.1 x2.2.1.Params x2.2.1.Ret x2.2.1.Blocks x2.2.2.1 x2.2.2.2.1 x2.2.2.2.2 x2.2.2.2.2.length)] (ci (Uw y1) (lL (x1==true) (c2 (λ(hg:(x1==true)=true)=>(Wo (Db hg y2))) (P5 x1)))) (tS h (gK (e:=.ret) (J1 EX (Le.trans (se (λg_ u=>(Ek u [] [(30000,.row 102 [(sA x1 x2 v0),(.int .i64 (bif (x1==true) then x2.2.1.Ret else v0.Ret)),(r9 x1 x2 v0),(.int .i64 (bif (x1==true) then x2.2.2.1 else v1)),(sB x1 x2 v2),.nilm,(sJ g_ x2.2.2.2.2 v12)]),(37006,.tok 5 211 (bif g_ then x2.2.2.2.2.length else v12.length))])) (λg_ u=>(Ek u [] [(30000,.row 102 [(sA x1 x2 v0),(.int .i64 (bif (x1==true) then x2.2.1.Ret else v0.Ret)),(r9 x1 x2 v0),(.int .i64 (bif (x1==true) then x2.2.2.1 else v1)),(sB x1 x2 v2),.nilm,(AV.list 5 Ka default (bif g_ then x2.2.2.2.2 else v12) (.own 37006))]),(37006,.tok 5 211 ((bif g_ then x2.2.2.2.2 else v12).length))])) (x1==true)) (Le.trans (lW 30000 0 (show AVle (sA x1 x2 v0) (AV.list 1 Aq 0 (bif (x1==true) then x2.2.1.Params else v0.Params) .none) from G8)) (Le.trans (lW 30000 2 (show AVle (r9 x1 x2 v0) (AV.list 5 Bm default (bif (x1==true) then x2.2.1.Blocks else v0.Blocks) .none) from G8)) (lW 30000 4 (show AVle (sB x1 x2 v2) (AV.list 1 Aq 0 (bif (x1==true) then x2.2.2.2.1 else v2) .none) from G8)))))))))
def D3(a6:List Ac):Oh->Option qs:=
 λ((i1,l2,i3,l4,i5,l6,l7):Oh)=>(bif (decide (i1<(a6.length:Int))) then(Bh (Bl i1 a6.length) ((Em (a6.getD i1.toNat default) (⟨l2,i3,l4⟩:Ab) i5 l6 l7).bind λx15=>(bif (!x15.1) then(some (.done (.inr (false,x15.2.1,x15.2.2.1,x15.2.2.2.1,x15.2.2.2.2)))) else(some (.next ((Ay (i1+1)),x15.2.1.Params,x15.2.1.Ret,x15.2.1.Blocks,x15.2.2.1,x15.2.2.2.1,x15.2.2.2.2)))))) else(some (.done (.inl (l2,i3,l4,i5,l6,l7)))))
def Tx(Γ:G2)(a6:List Ac)(a0:Ab)(a4:Int)(a5:Au)(a7:List A6)(r:Vg):Exit->St->Prop:=fK Tryz.prog Γ Tryz.f157.results.toList (Z3 a0.Params a0.Ret a0.Blocks a4 a5 a7 a7.length) (.bool r.1) (Z3 r.2.1.Params r.2.1.Ret r.2.1.Blocks r.2.2.1 r.2.2.2.1 r.2.2.2.2 r.2.2.2.2.length)
def Gx(a6:List Ac)(a0:Ab)(a4:Int)(a5:Au)(a7:List A6):Option Vg:=
 ((Af (D3 a6) ((0:Int),a0.Params,a0.Ret,a0.Blocks,a4,a5,a7)).bind (λx16=>(match x16 with|(.inl (l8,i9,l10,i11,l12,l13))=>(some (true,(⟨l8,i9,l10⟩:Ab),i11,l12,l13))|(.inr r18)=>(some r18))))
theorem Sy(h:Gx v10 v0 v1 v2 v12=some v23):sP 157 [(RJ v10),(.clo 158 fM [])] (Z3 v0.Params v0.Ret v0.Blocks v1 v2 v12 v12.length) (.bool v23.1) (Z3 v23.2.1.Params v23.2.1.Ret v23.2.1.Blocks v23.2.2.1 v23.2.2.2.1 v23.2.2.2.2 v23.2.2.2.2.length):=
 sG Tryz.func157 λΓ q=>tW q Fc F7 Je F7 (tL q h Je F7 (λu (i1,l2,i3,l4,i5,l6,l7)=>(Ek u [(9,(Z5 i1))] (Z3 l2 i3 l4 i5 l6 l7 l7.length))) (λu x_=>match x_ with|(.inl (l8,i9,l10,i11,l12,l13))=>aG Γ (.exit 0) (⟨[],(Z3 l8 i9 l10 i11 l12 l13 l13.length),[]⟩:St)|(.inr r_)=>aR (Tx Γ v10 v0 v1 v2 v12 r_)) (λ⟨i1,l2,i3,l4,i5,l6,l7⟩ y h=>Ak q EH F7 (gC h (λh=>tV q EI [6,30000,37006] h λh=>tB h λx15 y15 h=>tT q KA F7 [(rR x15.1 x15.2.1.Params x15.2.1.Ret x15.2.1.Blocks x15.2.2.1 x15.2.2.2.1 x15.2.2.2.2 x15.2.2.2.2.length)] (c1 (Oz y15)) (gC h (λh=>Ak q [4] F7 (tS h (gO (O8 (J1 EX (Le.refl _ _)))))) λh=>Ak q Je F7 (tN h))) λh=>tS h (gO (C3 (Cw [] F7 q))))) λx16 h=>(match x16,h with | .inl ⟨l8,i9,l10,i11,l12,l13⟩,h=>gA (Ak q [4] F7 (tS h (Dm EX))) | .inr r18,h=>Uq (λst' hk=>tS h (gK hk))))
def cf(x1:Bool)(x2:Bool):=((bif x1 then x2 else false)==true)
def sE(x1:Bool)(x2:Bool)(x3:Vg)(a5:Au):AV:=(rP (cf x1 x2) x3.2.2.2.1 a5)
def sD(x1:Bool)(x2:Bool)(x3:Vg)(a0:Ab):AV:=(rP (cf x1 x2) x3.2.1.Params a0.Params)
def sC(x1:Bool)(x2:Bool)(x3:Vg)(a0:Ab):AV:=(s8 (cf x1 x2) x3.2.1.Blocks a0.Blocks)
def Gy(a0:Ab)(a4:Int)(a5:Au)(a7:List A6):Option eC:=
 ((Ky a0.Params).bind λx1=>((bif (x1==true) then Hv a0.Ret else some false).bind λx2=>((bif ((bif x1 then x2 else false)==true) then Gx a0.Blocks a0 a4 a5 a7 else some (false,(default:Ab),(0:Int),[],[])).bind λx3=>((Jm (bif (bif x1 then x2 else false) then x3.1 else false) (6:Int)).bind λx4=>(some (x4,(⟨(bif ((bif x1 then x2 else false)==true) then x3.2.1.Params else a0.Params),(bif ((bif x1 then x2 else false)==true) then x3.2.1.Ret else a0.Ret),(bif ((bif x1 then x2 else false)==true) then x3.2.1.Blocks else a0.Blocks)⟩:Ab),(bif ((bif x1 then x2 else false)==true) then x3.2.2.1 else a4),(bif ((bif x1 then x2 else false)==true) then x3.2.2.2.1 else a5),(bif ((bif x1 then x2 else false)==true) then x3.2.2.2.2 else a7)))))))
theorem Sz(h:Gy v0 v1 v2 v12=some v13):sP 106 fM (Z3 v0.Params v0.Ret v0.Blocks v1 v2 v12 v12.length) (Z5 v13.1) (Z3 v13.2.1.Params v13.2.1.Ret v13.2.1.Blocks v13.2.2.1 v13.2.2.2.1 v13.2.2.2.2 v13.2.2.2.2.length):=
 sG Tryz.func106 λΓ q=>Ak q [0] F7 (tB h λx1 y1 h=>tB h λx2 y2 h=>tB h λx3 y3 h=>tT q [3] F7 [(Z6 x1),(Z6 x2),(rR x3.1 x3.2.1.Params x3.2.1.Ret x3.2.1.Blocks x3.2.2.1 x3.2.2.2.1 x3.2.2.2.2 x3.2.2.2.2.length)] (ci (BL y1) (pH (x1==true) (kA (λ(hg:(x1==true)=true)=>(Ju (Db hg y2))) (P5 x1) (tE (cf x1 x2) (c2 (λ(hg:(cf x1 x2)=true)=>(Sy (Db hg y3))) (P5 (bif x1 then x2 else false))))))) (gLe (Le.trans (se (λg_ u=>(Ek u [] [(30000,.row 102 [(sD x1 x2 x3 v0),(mi (cf x1 x2) x3.2.1.Ret v0.Ret),(sC x1 x2 x3 v0),(mi (cf x1 x2) x3.2.2.1 v1),(sE x1 x2 x3 v2),.nilm,(sJ g_ x3.2.2.2.2 v12)]),(37006,.tok 5 211 (bif g_ then x3.2.2.2.2.length else v12.length))])) (λg_ u=>(Ek u [] [(30000,.row 102 [(sD x1 x2 x3 v0),(mi (cf x1 x2) x3.2.1.Ret v0.Ret),(sC x1 x2 x3 v0),(mi (cf x1 x2) x3.2.2.1 v1),(sE x1 x2 x3 v2),.nilm,(AV.list 5 Ka default (bif g_ then x3.2.2.2.2 else v12) (.own 37006))]),(37006,.tok 5 211 ((bif g_ then x3.2.2.2.2 else v12).length))])) (cf x1 x2)) (Le.trans (lW 30000 0 (show AVle (sD x1 x2 x3 v0) (AV.list 1 Aq 0 (bif (cf x1 x2) then x3.2.1.Params else v0.Params) .none) from G8)) (Le.trans (lW 30000 2 (show AVle (sC x1 x2 x3 v0) (AV.list 5 Bm default (bif (cf x1 x2) then x3.2.1.Blocks else v0.Blocks) .none) from G8)) (lW 30000 4 (show AVle (sE x1 x2 x3 v2) (AV.list 1 Aq 0 (bif (cf x1 x2) then x3.2.2.2.1 else v2) .none) from G8))))) (tB h λx4 y4 h=>tT q [2] F7 [(fH x4)] (c1 (Tf y4)) (tS h (Dm EX)))))
def Dk(aL:Int):Option Gu:=
 (some (aL,(1:Int)))
theorem It(h:Dk v1=some v19):sP 159 [(Z5 v1)] [] (.agg (Bu v19)) []:=
 sG Tryz.func159 λΓ q=>tW q [0,2] [2] [2] [2] (tS h (Dm []))
def pD:=(λ(v_:Aw)=>((Sd v_):AV))
abbrev Kv:=(Int×Aw)
abbrev VQ:=(Bool×Ab×Int×Au×List A6×List (Int×Aw))
def En(aE:Int)(aa4:Gu)(aJ:Ia)(a0:Ab)(a4:Int)(a5:Au)(a8:List Kv)(a7:List A6):Option VQ:=
 (bif (bif (bif (C5 a8 aE) then true else(decide (aE<1))) then true else(decide ((1023:Int)<aE))) then(some (false,a0,a4,a5,a7,a8)) else(some (true,a0,a4,a5,a7,(Gq a8 aE (⟨aa4,aJ⟩:Aw)))))
variable{v24:Ia}{v25:List Kv}{v26:VQ}
abbrev eA:=(Int×AV)
theorem Lq(h:En v1 v19 v24 v0 v11 v2 v25 v12=some v26):sP 203 [(.ptr 30000 0),(Z5 v1),(.agg (Bu v19)),(.agg (FI v24))] [(Z1 v0.Params v0.Ret v0.Blocks v11 v2 9100005 v12),(Lm 37006 211 v12.length),(9100005,.obj (.map true .i64 (Bf (λ(v_:Aw)=>((Sd v_):AV)) v25)))] (.bool v26.1) [(Z1 v26.2.1.Params v26.2.1.Ret v26.2.1.Blocks v26.2.2.1 v26.2.2.2.1 9100005 v26.2.2.2.2.1),(Lm 37006 211 v26.2.2.2.2.1.length),(9100005,.obj (.map true .i64 (Bf (λ(v_:Aw)=>((Sd v_):AV)) v26.2.2.2.2.2)))]:=
 sG Tryz.func203 λΓ q=>Ak q JT cP (gR q [0,1,6,7,10] cP [(17,(.tuple [(mh v25 v1),(.bool (C5 v25 v1))]))] [] (c1 (show(AVle (.tuple [D7 (.agg [Kk,Kk,Kk,Kk]) (Bf pD v25) v1,.bool (C5 (Bf pD v25) v1)]) (.tuple [(mh v25 v1),(.bool (C5 v25 v1))])) from(HQ (f:=pD) (l:=v25) (AVle.refl _) rfl))) (tU q [0,1,6,7,28] cP (c4 (gI ((C5 v25 v1)==false)) (FM (C5 v25 v1)) (gI ((bif (C5 v25 v1) then true else(decide (v1<1)))==false)) (FM (bif (C5 v25 v1) then true else(decide (v1<1))))) (gC h (λh=>Ak q [8] F3 (tS h (Dm Wp))) λh=>Ak q [] F3 (gLe (Pv (λ(k_:List eA) u=>Ek u [] [(KK 9100005 k_)]) (show(Gq (Bf pD v25) v1 (.agg [(Z5 v19.1),(Z5 v19.2),(Z5 v24.block),(Z5 v24.at_)]))=(Bf pD (Gq v25 v1 (⟨v19,v24⟩:Aw))) from(PV (f:=pD) (l:=v25) (v:=(⟨v19,v24⟩:Aw)) rfl rfl))) (Ak q [8] F3 (tS h (Dm Wp)))))))
def Mj(a3:Bz):Option Gu:=
 ((Nb a3).bind λx1=>(bif (!x1) then(some ((0:Int),(0:Int))) else((Mn a3).bind λx2=>(some (x2.1,x2.2)))))
theorem LE(h:Mj v6=some v19):sP 204 [(.agg (E4 v6))] [] (.tuple [(Z5 v19.1),(Z5 v19.2)]) []:=
 sG Tryz.func204 λΓ q=>Ak q [1] [1] (tB h λx1 y1 h=>tT q [1,6] [1] [(Z6 x1)] (c1 (U1 y1)) (gC h (λh=>Ak q R8 [] (tS h (Dm []))) λh=>tB h λx2 y2 h=>tT q R8 [] [⟨[],[],(.tuple [(Z5 x2.1),(Z5 x2.2)]),[],[],[]⟩] (c1 (W5 y2)) (tS h (Dm []))))
set_option maxRecDepth 100000
set_option maxHeartbeats 2000000
abbrev mU:=(Int×Au×Int×List Ac×Int×Au×List A6×List (Int×Aw))
abbrev qt:=(LR (Int×Au×Int×List Ac×Int×Au×List A6×List (Int×Aw)) ((Au×Int×List Ac×Int×Au×List A6×List (Int×Aw)) ⊕ (Bool×Ab×Int×Au×List A6×List (Int×Aw))))
def Cx(aa1:Int)(aK:Ac):mU->Option qt:=
 λ((i1,l2,i3,l4,i5,l6,l7,l8):mU)=>(bif (decide (i1<(aK.Phis.length:Int))) then(Bh (Bl i1 aK.Phis.length) ((Dk ((aK.Phis.getD i1.toNat default).Bits)).bind λx17=>((En ((aK.Phis.getD i1.toNat default).Dst) x17 (⟨aa1,(-1:Int)⟩:Ia) (⟨l2,i3,l4⟩:Ab) i5 l6 l8 l7).bind λx18=>(bif (!x18.1) then(some (.done (.inr (false,x18.2.1,x18.2.2.1,x18.2.2.2.1,x18.2.2.2.2.1,x18.2.2.2.2.2)))) else(some (.next ((Ay (i1+1)),x18.2.1.Params,x18.2.1.Ret,x18.2.1.Blocks,x18.2.2.1,x18.2.2.2.1,x18.2.2.2.2.1,x18.2.2.2.2.2))))))) else(some (.done (.inl (l2,i3,l4,i5,l6,l7,l8)))))
def B3(aa1:Int)(aK:Ac):mU->Option qt:=
 λ((i21,l22,i23,l24,i25,l26,l27,l28):mU)=>(bif (decide (i21<(aK.Ops.length:Int))) then(Bh (Bl i21 aK.Ops.length) ((Mj (aK.Ops.getD i21.toNat default)).bind λx37=>((bif ((decide ((0:Int)<x37.1))==true) then En ((aK.Ops.getD i21.toNat default).Dst) (x37.1,x37.2) (⟨aa1,i21⟩:Ia) (⟨l22,i23,l24⟩:Ab) i25 l26 l28 l27 else some (false,(default:Ab),(0:Int),[],[],[])).bind λx38=>(bif (bif (decide ((0:Int)<x37.1)) then(!x38.1) else false) then(some (.done (.inr (false,(⟨(bif ((decide ((0:Int)<x37.1))==true) then x38.2.1.Params else l22),(bif ((decide ((0:Int)<x37.1))==true) then x38.2.1.Ret else i23),(bif ((decide ((0:Int)<x37.1))==true) then x38.2.1.Blocks else l24)⟩:Ab),(bif ((decide ((0:Int)<x37.1))==true) then x38.2.2.1 else i25),(bif ((decide ((0:Int)<x37.1))==true) then x38.2.2.2.1 else l26),(bif ((decide ((0:Int)<x37.1))==true) then x38.2.2.2.2.1 else l27),(bif ((decide ((0:Int)<x37.1))==true) then x38.2.2.2.2.2 else l28))))) else(some (.next ((Ay (i21+1)),(bif ((decide ((0:Int)<x37.1))==true) then x38.2.1.Params else l22),(bif ((decide ((0:Int)<x37.1))==true) then x38.2.1.Ret else i23),(bif ((decide ((0:Int)<x37.1))==true) then x38.2.1.Blocks else l24),(bif ((decide ((0:Int)<x37.1))==true) then x38.2.2.1 else i25),(bif ((decide ((0:Int)<x37.1))==true) then x38.2.2.2.1 else l26),(bif ((decide ((0:Int)<x37.1))==true) then x38.2.2.2.2.1 else l27),(bif ((decide ((0:Int)<x37.1))==true) then x38.2.2.2.2.2 else l28)))))))) else(some (.done (.inl (l22,i23,l24,i25,l26,l27,l28)))))
def J9(Γ:G2)(aa1:Int)(aK:Ac)(a0:Ab)(a4:Int)(a5:Au)(a8:List Kv)(a7:List A6)(r:VQ):Exit->St->Prop:=fK Tryz.prog Γ Tryz.f160.results.toList [(Z1 a0.Params a0.Ret a0.Blocks a4 a5 9100005 a7),(Lm 37006 211 a7.length),(9100005,.obj (.map true .i64 (Bf (λ(v_:Aw)=>((Sd v_):AV)) a8)))] (.bool r.1) [(Z1 r.2.1.Params r.2.1.Ret r.2.1.Blocks r.2.2.1 r.2.2.2.1 9100005 r.2.2.2.2.1),(Lm 37006 211 r.2.2.2.2.1.length),(9100005,.obj (.map true .i64 (Bf (λ(v_:Aw)=>((Sd v_):AV)) r.2.2.2.2.2)))]
def WH(x37:Gu):=((decide ((0:Int)<x37.1))==true)
def kV:=(λ(v_:Aw)=>((Sd v_):AV))
def sH(x37:Gu)(x38:VQ)(l26:Au):AV:=(rP (WH x37) x38.2.2.2.1 l26)
def sI(x37:Gu)(x38:VQ)(l24:List Ac):AV:=(s8 (WH x37) x38.2.1.Blocks l24)
def sF(x37:Gu)(x38:VQ)(l22:Au):AV:=(rP (WH x37) x38.2.1.Params l22)
def E5(aa1:Int)(aK:Ac)(a0:Ab)(a4:Int)(a5:Au)(a8:List Kv)(a7:List A6):Option VQ:=
 ((Af (Cx aa1 aK) ((0:Int),a0.Params,a0.Ret,a0.Blocks,a4,a5,a7,a8)).bind (λx19=>(match x19 with|(.inl (l9,i10,l11,i12,l13,l14,l15))=>((Af (B3 aa1 aK) ((0:Int),l9,i10,l11,i12,l13,l14,l15)).bind (λx39=>(match x39 with|(.inl (l29,i30,l31,i32,l33,l34,l35))=>(some (true,(⟨l29,i30,l31⟩:Ab),i32,l33,l34,l35))|(.inr r41)=>(some r41))))|(.inr r42)=>(some r42))))
theorem Ph(h:E5 v1 v9 v0 v11 v2 v25 v12=some v26):sP 160 [(.ptr 30000 0),(Z5 v1),(.agg (Bm v9))] [(Z1 v0.Params v0.Ret v0.Blocks v11 v2 9100005 v12),(Lm 37006 211 v12.length),(9100005,.obj (.map true .i64 (Bf (λ(v_:Aw)=>((Sd v_):AV)) v25)))] (.bool v26.1) [(Z1 v26.2.1.Params v26.2.1.Ret v26.2.1.Blocks v26.2.2.1 v26.2.2.2.1 9100005 v26.2.2.2.2.1),(Lm 37006 211 v26.2.2.2.2.1.length),(9100005,.obj (.map true .i64 (Bf (λ(v_:Aw)=>((Sd v_):AV)) v26.2.2.2.2.2)))]:=
 sG Tryz.func160 λΓ q=>tW q Tw ED ZP ED (tL q h ZP ED (λu (i1,l2,i3,l4,i5,l6,l7,l8)=>(Ek u [(16,(Z5 i1))] [(Z1 l2 i3 l4 i5 l6 9100005 l7),(Lm 37006 211 l7.length),(9100005,.obj (.map true .i64 (Bf kV l8)))])) (λu x_=>match x_ with|(.inl (l9,i10,l11,i12,l13,l14,l15))=>aG Γ (.exit 0) (T9 Tw ED u [] [(Z1 l9 i10 l11 i12 l13 9100005 l14),(Lm 37006 211 l14.length),(9100005,.obj (.map true .i64 (Bf kV l15)))])|(.inr r_)=>aR (J9 Γ v1 v9 v0 v11 v2 v25 v12 r_)) (λ⟨i1,l2,i3,l4,i5,l6,l7,l8⟩ y h=>Ak q [0,1,5,14,15,16,17] ED (gC h (λh=>tV q [0,1,5,8,14,15,16] [5,8,30000,37006,9100005] h λh=>tB h λx17 y17 h=>tB h λx18 y18 h=>tT q [0,1,5,14,15,16,29] ED [(qD x17),⟨Wp,[],(.bool x18.1),[(Z1 x18.2.1.Params x18.2.1.Ret x18.2.1.Blocks x18.2.2.1 x18.2.2.2.1 9100005 x18.2.2.2.2.1),(Lm 37006 211 x18.2.2.2.2.1.length),(9100005,.obj (.map true .i64 (Bf kV x18.2.2.2.2.2)))],[],[]⟩] (c2 (It y17) (Lq y18)) (gC h (λh=>Ak q [6] F3 (tS h (gO (O8 (J1 Wp (Le.refl _ _)))))) λh=>Ak q ZP ED (tN h))) λh=>tS h (gO (C3 (Cw Tw ED q))))) λx19 h=>(match x19,h with | .inl ⟨l9,i10,l11,i12,l13,l14,l15⟩,h=>gA (Ak q ZS F3 (tL q h ZS F3 (λu (i21,l22,i23,l24,i25,l26,l27,l28)=>(Ek u [(34,(Z5 i21))] [(Z1 l22 i23 l24 i25 l26 9100005 l27),(Lm 37006 211 l27.length),(9100005,.obj (.map true .i64 (Bf kV l28)))])) (λu x_=>match x_ with|(.inl (l29,i30,l31,i32,l33,l34,l35))=>aG Γ (.exit 2) (⟨[],[(Z1 l29 i30 l31 i32 l33 9100005 l34),(Lm 37006 211 l34.length),(9100005,.obj (.map true .i64 (Bf kV l35)))],[]⟩:St)|(.inr r_)=>aR (J9 Γ v1 v9 v0 v11 v2 v25 v12 r_)) (λ⟨i21,l22,i23,l24,i25,l26,l27,l28⟩ y h=>Ak q [0,1,32,33,34,35] F3 (gC h (λh=>tV q [0,1,9,10,32,33,34] jm h λh=>tB h λx37 y37 h=>tT q [0,1,9,10,11,12,32,33,34] jm [⟨[],[],(.tuple [(Z5 x37.1),(Z5 x37.2)]),[],[],[]⟩] (c1 (LE y37)) (tB h λx38 y38 h=>tT q [0,1,32,33,34,58] F3 [⟨Wp,[],(.bool x38.1),[(Z1 x38.2.1.Params x38.2.1.Ret x38.2.1.Blocks x38.2.2.1 x38.2.2.2.1 9100005 x38.2.2.2.2.1),(Lm 37006 211 x38.2.2.2.2.1.length),(9100005,.obj (.map true .i64 (Bf kV x38.2.2.2.2.2)))],[],[]⟩] (tX (WH x37) (c3 (λ(hg:(WH x37)=true)=>(Lq (Db hg y38))) (gI (WH x37)) (P5 (decide ((0:Int)<x37.1))))) (gLe (Le.trans (Pv (λ(k_:List eA) u=>Ek u [] [(KK 9100005 k_)]) (show(bif (WH x37) then(Bf kV x38.2.2.2.2.2) else(Bf kV l28))=(Bf kV (bif (WH x37) then x38.2.2.2.2.2 else l28)) from(fm rfl rfl))) (Le.trans (se (λg_ u=>(Ek u [] [(30000,.row 102 [(sF x37 x38 l22),(mi (WH x37) x38.2.1.Ret i23),(sI x37 x38 l24),(mi (WH x37) x38.2.2.1 i25),(sH x37 x38 l26),(.omap 9100005),(sJ g_ x38.2.2.2.2.1 l27)]),(37006,.tok 5 211 (bif g_ then x38.2.2.2.2.1.length else l27.length))])) (λg_ u=>(Ek u [] [(30000,.row 102 [(sF x37 x38 l22),(mi (WH x37) x38.2.1.Ret i23),(sI x37 x38 l24),(mi (WH x37) x38.2.2.1 i25),(sH x37 x38 l26),(.omap 9100005),(AV.list 5 Ka default (bif g_ then x38.2.2.2.2.1 else l27) (.own 37006))]),(37006,.tok 5 211 ((bif g_ then x38.2.2.2.2.1 else l27).length))])) (WH x37)) (Le.trans (lW 30000 0 (show AVle (sF x37 x38 l22) (AV.list 1 Aq 0 (bif (WH x37) then x38.2.1.Params else l22) .none) from G8)) (Le.trans (lW 30000 2 (show AVle (sI x37 x38 l24) (AV.list 5 Bm default (bif (WH x37) then x38.2.1.Blocks else l24) .none) from G8)) (lW 30000 4 (show AVle (sH x37 x38 l26) (AV.list 1 Aq 0 (bif (WH x37) then x38.2.2.2.1 else l26) .none) from G8)))))) (gC h (λh=>Ak q [6] F3 (tS h (gO (O8 (J1 Wp (Le.refl _ _)))))) λh=>Ak q ZS F3 (tN h))))) λh=>tS h (gO (C3 (Cw [] F3 q))))) λx39 h=>(match x39,h with | .inl ⟨l29,i30,l31,i32,l33,l34,l35⟩,h=>gA (Ak q [6] F3 (tS h (Dm Wp))) | .inr r41,h=>Uq (λst' hk=>tS h (gK hk))))) | .inr r42,h=>Uq (λst' hk=>tS h (gK hk))))
abbrev qu:=(Int×List (Int×Aw))
def Eo(a0:Ab):qu->Option (LR (Int×List (Int×Aw)) (List (Int×Aw))):=
 λ((i1,l2):qu)=>(bif (decide (i1<(a0.Params.length:Int))) then(Bh (Bl i1 a0.Params.length) ((Dk (a0.Params.getD i1.toNat 0)).bind λx5=>(some (.next ((Ay (i1+1)),(Gq l2 (Ay (i1+1)) (⟨x5,(⟨(0:Int),(-1:Int)⟩:Ia)⟩:Aw))))))) else(some (.done l2)))
abbrev qv:=(Int×List (Int×Aw)×Au×Int×List Ac×Int×Au×List A6)
def Dj(a0:Ab):qv->Option (LR (Int×List (Int×Aw)×Au×Int×List Ac×Int×Au×List A6) ((List (Int×Aw)×Au×Int×List Ac×Int×Au×List A6) ⊕ (Int×Ab×Int×Au×List A6×List (Int×Aw)))):=
 λ((i8,l9,l10,i11,l12,i13,l14,l15):qv)=>(bif (decide (i8<(a0.Blocks.length:Int))) then(Bh (Bl i8 a0.Blocks.length) ((E5 i8 (a0.Blocks.getD i8.toNat default) (⟨l10,i11,l12⟩:Ab) i13 l14 l9 l15).bind λx24=>(bif (!x24.1) then(some (.done (.inr ((7:Int),x24.2.1,x24.2.2.1,x24.2.2.2.1,x24.2.2.2.2.1,x24.2.2.2.2.2)))) else(some (.next ((Ay (i8+1)),x24.2.2.2.2.2,x24.2.1.Params,x24.2.1.Ret,x24.2.1.Blocks,x24.2.2.1,x24.2.2.2.1,x24.2.2.2.2.1)))))) else(some (.done (.inl (l9,l10,i11,l12,i13,l14,l15)))))
abbrev mV:=(Int×Ab×Int×Au×List A6×List (Int×Aw))
def Q8(Γ:G2)(a0:Ab)(a4:Int)(a5:Au)(a7:List A6)(r:mV):Exit->St->Prop:=fK Tryz.prog Γ Tryz.f107.results.toList (Z3 a0.Params a0.Ret a0.Blocks a4 a5 a7 a7.length) (Z5 r.1) [(Z1 r.2.1.Params r.2.1.Ret r.2.1.Blocks r.2.2.1 r.2.2.2.1 9200005 r.2.2.2.2.1),(Lm 37006 211 r.2.2.2.2.1.length),(9200005,.obj (.map false .i64 (Bf (λ(v_:Aw)=>((Sd v_):AV)) r.2.2.2.2.2)))]
def an:=(λ(v_:Aw)=>((Sd v_):AV))
def s6(l16:List Kv)(l17:Au)(i18:Int)(l19:List Ac)(i20:Int)(l21:Au)(l22:List A6):List KE:=[(8,.obj (.map true .i64 (Bf an l16))),(Z9 l17 i18 l19 i20 l21 l22),(Lm 37006 211 l22.length)]
def Ft(a0:Ab)(a4:Int)(a5:Au)(a7:List A6):Option mV:=
 ((Af (Eo a0) ((0:Int),([]:List Kv))).bind (λx6=>((Af (Dj a0) ((0:Int),x6,a0.Params,a0.Ret,a0.Blocks,a4,a5,a7)).bind (λx25=>(match x25 with|(.inl (l16,l17,i18,l19,i20,l21,l22))=>(some ((0:Int),(⟨l17,i18,l19⟩:Ab),i20,l21,l22,l16))|(.inr r27)=>(some r27))))))
variable{v27:mV}
theorem Qx(h:Ft v0 v1 v2 v12=some v27):sP 107 fM (Z3 v0.Params v0.Ret v0.Blocks v1 v2 v12 v12.length) (Z5 v27.1) [(Z1 v27.2.1.Params v27.2.1.Ret v27.2.1.Blocks v27.2.2.1 v27.2.2.2.1 9200005 v27.2.2.2.2.1),(Lm 37006 211 v27.2.2.2.2.1.length),(9200005,.obj (.map false .i64 (Bf (λ(v_:Aw)=>((Sd v_):AV)) v27.2.2.2.2.2)))]:=
 sG Tryz.func107 λΓ q=>tW q [0] F7 [0] Mz (gLe (Pv (λ(k_:List eA) u=>Ek u [] [(8,.obj (.map true .i64 k_))]) (show[]=(Bf an ([]:List Kv)) from rfl)) (Ak q QY Mz (tL q h QY Mz (λu (i1,l2)=>(Ek u [(17,(Z5 i1))] [(8,.obj (.map true .i64 (Bf an l2)))])) (λu l3=>aG Γ (.exit 0) (T9 [0] Mz u [] [(8,.obj (.map true .i64 (Bf an l3)))])) (λ⟨i1,l2⟩ y h=>Ak q [0,15,16,17,18] Mz (gC h (λh=>tV q [0,3,4,15,16,17] Mz h λh=>tB h λx5 y5 h=>tT q QY Mz [(qD x5)] (c1 (It y5)) (gLe (Pv (λ(k_:List eA) u=>Ek u [] [(8,.obj (.map true .i64 k_))]) (show(Gq (Bf an l2) (Ay (i1+1)) (.agg [(Z5 x5.1),(Z5 x5.2),Kk,(.int .i64 (-1:Int))]))=(Bf an (Gq l2 (Ay (i1+1)) (⟨x5,(⟨(0:Int),(-1:Int)⟩:Ia)⟩:Aw))) from(PV (f:=an) (l:=l2) (v:=(⟨x5,(⟨(0:Int),(-1:Int)⟩:Ia)⟩:Aw)) rfl rfl))) (Ak q QY Mz (tN h)))) λh=>tS h (gO (C3 (Cw [0] Mz q))))) λx6 h=>gA (Ak q ZY Mz (tL q h ZY Mz (λu (i8,l9,l10,i11,l12,i13,l14,l15)=>(Ek u [(39,(Z5 i8))] [(8,.obj (.map true .i64 (Bf an l9))),(Z9 l10 i11 l12 i13 l14 l15),(Lm 37006 211 l15.length)])) (λu x_=>match x_ with|(.inl (l16,l17,i18,l19,i20,l21,l22))=>aG Γ (.exit 2) (⟨[],(s6 l16 l17 i18 l19 i20 l21 l22),[]⟩:St)|(.inr r_)=>aR (Q8 Γ v0 v1 v2 v12 r_)) (λ⟨i8,l9,l10,i11,l12,i13,l14,l15⟩ y h=>Ak q [0,37,38,39,40] Mz (gC h (λh=>tV q [0,5,6,37,38,39] [6,8,30000,37006] h λh=>tB h λx24 y24 h=>tT q [0,37,38,39,48] Mz [⟨[(30000,30000),(37006,37006),(8,9100005)],[],(.bool x24.1),[(Z1 x24.2.1.Params x24.2.1.Ret x24.2.1.Blocks x24.2.2.1 x24.2.2.2.1 9100005 x24.2.2.2.2.1),(Lm 37006 211 x24.2.2.2.2.1.length),(9100005,.obj (.map true .i64 (Bf an x24.2.2.2.2.2)))],[],[]⟩] (c1 (Ph y24)) (gC h (λh=>Ak q [2] Mz (Td (⟨[(2,(.int .i64 (7:Int)))],[(8,.obj (.map true .i64 (Bf an x24.2.2.2.2.2))),(Z9 x24.2.1.Params x24.2.1.Ret x24.2.1.Blocks x24.2.2.1 x24.2.2.2.1 x24.2.2.2.2.1),(Lm 37006 211 x24.2.2.2.2.1.length)],[]⟩:St) (tS h (gO (O8 (J1 nK (Le.trans (XY (nm:=8) (.map false .i64 (Bf an x24.2.2.2.2.2)) rfl (λ_ _ _ _ h_=>HT h_)) (Cw (st':=⟨[(2,(.int .i64 (7:Int)))],[(8,.obj (.map false .i64 (Bf an x24.2.2.2.2.2))),(Z9 x24.2.1.Params x24.2.1.Ret x24.2.1.Blocks x24.2.2.1 x24.2.2.2.1 x24.2.2.2.2.1),(Lm 37006 211 x24.2.2.2.2.1.length)],[]⟩) [2] Mz q)))))))) λh=>Ak q ZY Mz (tN h))) λh=>tS h (gO (C3 (Cw [] Mz q))))) λx25 h=>(match x25,h with | .inl ⟨l16,l17,i18,l19,i20,l21,l22⟩,h=>gA (Ak q [2] Mz (Td (⟨[(2,Kk)],(s6 l16 l17 i18 l19 i20 l21 l22),[]⟩:St) (tS h (gK (e:=.ret) (J1 nK (Le.trans (XY (nm:=8) (.map false .i64 (Bf an l16)) rfl (λ_ _ _ _ h_=>HT h_)) (Cw (st':=⟨[(2,Kk)],[(8,.obj (.map false .i64 (Bf an l16))),(Z9 l17 i18 l19 i20 l21 l22),(Lm 37006 211 l22.length)],[]⟩) [2] Mz q))))))) | .inr r27,h=>Uq (λst' hk=>tS h (gK hk))))))))
abbrev qw:=(Ia×Ab×Int×Au×List A6)
def Ey(aa1:Int)(a0:Ab)(a4:Int)(a5:Au)(a8:List Kv)(a7:List A6):Option qw:=
 (Bh (Bl aa1 a0.Blocks.length) (some ((⟨aa1,(((a0.Blocks.getD aa1.toNat default).Ops).length:Int)⟩:Ia),a0,a4,a5,a7)))
variable{v28:qw}
theorem Jt(h:Ey v1 v0 v11 v2 v25 v12=some v28):sP 206 [(.ptr 30000 0),(Z5 v1)] [(Z1 v0.Params v0.Ret v0.Blocks v11 v2 9100005 v12),(Lm 37006 211 v12.length),(9100005,.obj (.map false .i64 (Bf (λ(v_:Aw)=>((Sd v_):AV)) v25)))] (.agg (FI v28.1)) [(Z1 v28.2.1.Params v28.2.1.Ret v28.2.1.Blocks v28.2.2.1 v28.2.2.2.1 9100005 v28.2.2.2.2),(Lm 37006 211 v28.2.2.2.2.length),(9100005,.obj (.map false .i64 (Bf (λ(v_:Aw)=>((Sd v_):AV)) v25)))]:=
 sG Tryz.func206 λΓ q=>Ak q [0,1,4] jo (tV q [4] jo h λh=>tS h (Dm Wp))
abbrev mW:=(Ab×Int×Au×List A6)
def Dw(aE:Int)(aa4:Gu)(aJ:Ia)(a0:Ab)(a4:Int)(a5:Au)(a8:List Kv)(a7:List A6):Option mW:=
 (Bh (a7.length+([(⟨aE,aa4,aJ⟩:A6)]:List A6).length<=room) (some (a0,a4,a5,(a7++([(⟨aE,aa4,aJ⟩:A6)]:List A6)))))
variable{v29:mW}
theorem Hp(h:Dw v1 v19 v24 v0 v11 v2 v25 v12=some v29):sP 205 [(.ptr 30000 0),(Z5 v1),(.agg (Bu v19)),(.agg (FI v24))] [(Z1 v0.Params v0.Ret v0.Blocks v11 v2 9100005 v12),(Lm 37006 211 v12.length),(9100005,.obj (.map false .i64 (Bf (λ(v_:Aw)=>((Sd v_):AV)) v25)))] (.tuple []) [(Z1 v29.1.Params v29.1.Ret v29.1.Blocks v29.2.1 v29.2.2.1 9100005 v29.2.2.2),(Lm 37006 211 v29.2.2.2.length),(9100005,.obj (.map false .i64 (Bf (λ(v_:Aw)=>((Sd v_):AV)) v25)))]:=
 sG Tryz.func205 λΓ q=>Ak q JT cP (tC h λc1_ h=>gR q [] F3 [(17,(AV.list 5 Ka default ([(⟨v1,v19,v24⟩:A6)]:List A6) .exact)),(18,(AV.list 5 Ka default (v12++([(⟨v1,v19,v24⟩:A6)]:List A6)) (.own 37006)))] [] (c5 (Bx 5 Ka (default:A6) ([(⟨v1,v19,v24⟩:A6)]:List A6)) (Eq.refl v12.length) c1_ (Ot 5 37006 Ka (default:A6) v12 ([(⟨v1,v19,v24⟩:A6)]:List A6)) (G9 v12 ([(⟨v1,v19,v24⟩:A6)]:List A6))) (tS h (gK (e:=.normal) (J1 Wp (Le.refl _ _)))))
def rN:List eO:=[(2,rQ)]
def Mk(a3:Bz):Option mT:=
 ((Nb a3).bind λx1=>(bif (!x1) then(some ([]:List Gu)) else((Mp a3).bind λx2=>(some x2))))
theorem LG(h:Mk v6=some v21):sP 207 [(.agg (E4 v6))] [] (kW v21) []:=
 sG Tryz.func207 λΓ q=>gR q [1] [1] rN [] (c1 (Dp 2 Bu ((0:Int),(0:Int)))) (tB h λx1 y1 h=>tT q [1,5] [1] [(Z6 x1)] (c1 (U1 y1)) (gC h (λh=>gR q [2] [] rN [] (c1 (Dp 2 Bu ((0:Int),(0:Int)))) (Td (⟨rN,[],[]⟩:St) (tS h (gK (e:=.ret) (J1 [] (show Le Γ _ (⟨[(2,(AV.list 2 Bu ((0:Int),(0:Int)) ([]:List Gu) .none))],[],[]⟩:St) from Le.trans (Cw (st':=⟨rN,[],[]⟩) [2] [] q) (Re (.cons AVle.untag .nil) .nil))))))) λh=>tB h λx2 y2 h=>tT q [2] [] [(ck x2)] (c1 (W6 y2)) (tS h (Dm []))))
abbrev jb:=(LR (Int×Au×Int×List Ac×Int×Au×List A6) (Au×Int×List Ac×Int×Au×List A6))
def De(a0:Ab)(a8:List Kv)(i1:Int)(i21:Int):Oh->Option jb:=
 λ((i35,l36,i37,l38,i39,l40,l41):Oh)=>(bif (decide (i35<(((((a0.Blocks.getD i1.toNat default).Phis).getD i21.toNat default).Args).length:Int))) then(Bh (Bl i35 ((((a0.Blocks.getD i1.toNat default).Phis).getD i21.toNat default).Args).length) ((Dk ((((a0.Blocks.getD i1.toNat default).Phis).getD i21.toNat default).Bits)).bind λx49=>(Bh (Bl i35 ((((a0.Blocks.getD i1.toNat default).Phis).getD i21.toNat default).From).length) ((Ey (((((a0.Blocks.getD i1.toNat default).Phis).getD i21.toNat default).From).getD i35.toNat 0) (⟨l36,i37,l38⟩:Ab) i39 l40 a8 l41).bind λx51=>((Dw (((((a0.Blocks.getD i1.toNat default).Phis).getD i21.toNat default).Args).getD i35.toNat 0) x49 x51.1 x51.2.1 x51.2.2.1 x51.2.2.2.1 a8 x51.2.2.2.2).bind λx52=>(some (.next ((Ay (i35+1)),x52.1.Params,x52.1.Ret,x52.1.Blocks,x52.2.1,x52.2.2.1,x52.2.2.2)))))))) else(some (.done (l36,i37,l38,i39,l40,l41))))
def Df(a0:Ab)(a8:List Kv)(i1:Int):Oh->Option jb:=
 λ((i21,l22,i23,l24,i25,l26,l27):Oh)=>(bif (decide (i21<(((a0.Blocks.getD i1.toNat default).Phis).length:Int))) then(Bh (Bl i21 ((a0.Blocks.getD i1.toNat default).Phis).length) ((Af (De a0 a8 i1 i21) ((0:Int),l22,i23,l24,i25,l26,l27)).bind (λ(l42,i43,l44,i45,l46,l47)=>(some (.next ((Ay (i21+1)),l42,i43,l44,i45,l46,l47)))))) else(some (.done (l22,i23,l24,i25,l26,l27))))
def Dg(a0:Ab)(a8:List Kv)(i1:Int)(i57:Int)(x71:List VP):Oh->Option jb:=
 λ((i72,l73,i74,l75,i76,l77,l78):Oh)=>(bif (decide (i72<(x71.length:Int))) then(Bh (Bl i72 x71.length) (Bh (Bl i72 ((((a0.Blocks.getD i1.toNat default).Ops).getD i57.toNat default).Args).length) ((Dw (((((a0.Blocks.getD i1.toNat default).Ops).getD i57.toNat default).Args).getD i72.toNat 0) (x71.getD i72.toNat ((0:Int),(0:Int))) (⟨i1,i57⟩:Ia) (⟨l73,i74,l75⟩:Ab) i76 l77 a8 l78).bind λx87=>(some (.next ((Ay (i72+1)),x87.1.Params,x87.1.Ret,x87.1.Blocks,x87.2.1,x87.2.2.1,x87.2.2.2)))))) else(some (.done (l73,i74,l75,i76,l77,l78))))
def Dh(a0:Ab)(a8:List Kv)(i1:Int):Oh->Option jb:=
 λ((i57,l58,i59,l60,i61,l62,l63):Oh)=>(bif (decide (i57<(((a0.Blocks.getD i1.toNat default).Ops).length:Int))) then(Bh (Bl i57 ((a0.Blocks.getD i1.toNat default).Ops).length) ((Mk (((a0.Blocks.getD i1.toNat default).Ops).getD i57.toNat default)).bind λx71=>((Af (Dg a0 a8 i1 i57 x71) ((0:Int),l58,i59,l60,i61,l62,l63)).bind (λ(l79,i80,l81,i82,l83,l84)=>(some (.next ((Ay (i57+1)),l79,i80,l81,i82,l83,l84))))))) else(some (.done (l58,i59,l60,i61,l62,l63))))
def Di(a0:Ab)(a8:List Kv):Oh->Option jb:=
 λ((i1,l2,i3,l4,i5,l6,l7):Oh)=>(bif (decide (i1<(a0.Blocks.length:Int))) then(Option.bind (α:=(Au×Int×List Ac×Int×Au×List A6)) (Bh (Bl i1 a0.Blocks.length) ((Af (Df a0 a8 i1) ((0:Int),l2,i3,l4,i5,l6,l7)).bind (λx55=>(match x55 with|(l28,i29,l30,i31,l32,l33)=>((Af (Dh a0 a8 i1) ((0:Int),l28,i29,l30,i31,l32,l33)).bind (λx90=>(match x90 with|(l64,i65,l66,i67,l68,l69)=>(bif (((a0.Blocks.getD i1.toNat default).End.Kind:Int)==0) then((Dk i65).bind λx92=>((Ey i1 (⟨l64,i65,l66⟩:Ab) i67 l68 a8 l69).bind λx93=>((Dw ((a0.Blocks.getD i1.toNat default).End.Arg) x92 x93.1 x93.2.1 x93.2.2.1 x93.2.2.2.1 a8 x93.2.2.2.2).bind λx94=>(some (x94.1.Params,x94.1.Ret,x94.1.Blocks,x94.2.1,x94.2.2.1,x94.2.2.2))))) else(bif (((a0.Blocks.getD i1.toNat default).End.Kind:Int)==2) then((Dk (1:Int)).bind λx95=>((Ey i1 (⟨l64,i65,l66⟩:Ab) i67 l68 a8 l69).bind λx96=>((Dw ((a0.Blocks.getD i1.toNat default).End.Arg) x95 x96.1 x96.2.1 x96.2.2.1 x96.2.2.2.1 a8 x96.2.2.2.2).bind λx97=>(some (x97.1.Params,x97.1.Ret,x97.1.Blocks,x97.2.1,x97.2.2.1,x97.2.2.2))))) else(some (l64,i65,l66,i67,l68,l69))))))))))) (λx98=>(match x98 with|(l14,i15,l16,i17,l18,l19)=>(some (.next ((Ay (i1+1)),l14,i15,l16,i17,l18,l19)))))) else(some (.done (l2,i3,l4,i5,l6,l7))))
def td(a0:Ab)(i1:Int):=(a0.Blocks.getD i1.toNat default)
def mf(a8:List Kv):=(Bf (λ(v_:Aw)=>((Sd v_):AV)) a8)
def Fs(a0:Ab)(a4:Int)(a5:Au)(a8:List Kv)(a7:List A6):Option mW:=
 ((Af (Di a0 a8) ((0:Int),a0.Params,a0.Ret,a0.Blocks,a4,a5,a7)).bind (λ(l8,i9,l10,i11,l12,l13)=>(some ((⟨l8,i9,l10⟩:Ab),i11,l12,l13))))
theorem Qw(h:Fs v0 v1 v2 v25 v12=some v29):sP 161 fM [(Z1 v0.Params v0.Ret v0.Blocks v1 v2 9100005 v12),(Lm 37006 211 v12.length),(9100005,.obj (.map false .i64 (Bf (λ(v_:Aw)=>((Sd v_):AV)) v25)))] (.tuple []) [(Z1 v29.1.Params v29.1.Ret v29.1.Blocks v29.2.1 v29.2.2.1 9100005 v29.2.2.2),(Lm 37006 211 v29.2.2.2.length),(9100005,.obj (.map false .i64 (Bf (λ(v_:Aw)=>((Sd v_):AV)) v25)))]:=
 sG Tryz.func161 λΓ q=>Ak q OK F3 (tL q h OK F3 (λu (i1,l2,i3,l4,i5,l6,l7)=>(Ek u [(18,(Z5 i1))] (OS l2 i3 l4 i5 l6 l7 l7.length))) (λu (l8,i9,l10,i11,l12,l13)=>aG Γ (.exit 0) (T9 [] F3 u [] (OS l8 i9 l10 i11 l12 l13 l13.length))) (λ⟨i1,l2,i3,l4,i5,l6,l7⟩ y h=>Ak q [0,16,17,18,19] F3 (gC h (λh=>tB h λx98 y98 h=>gJ y98 (λ(l14,i15,l16,i17,l18,l19)=>aG Γ .normal (⟨[ml,(16,(RJ v0.Blocks)),(RL 17 v0.Blocks.length),(18,(Z5 i1))],(Z7 l14 i15 l16 i17 l18 l19 l19.length (mf v25)),[]⟩:St)) (λy h=>tV q VU Oi h λh=>Ak q VR Oi (tL q h VR Oi (λu (i21,l22,i23,l24,i25,l26,l27)=>(Ek u [(26,(Z5 i21))] (OS l22 i23 l24 i25 l26 l27 l27.length))) (λu (l28,i29,l30,i31,l32,l33)=>aG Γ (.exit 2) (T9 VU Oi u [] (OS l28 i29 l30 i31 l32 l33 l33.length))) (λ⟨i21,l22,i23,l24,i25,l26,l27⟩ y h=>Ak q [0,2,3,16,17,18,24,25,26,27] Oi (gC h (λh=>tV q [0,2,3,5,16,17,18,24,25,26] AD h λh=>Ak q cJ AD (tL q h cJ AD (λu (i35,l36,i37,l38,i39,l40,l41)=>(Ek u [(33,(Z5 i35))] (OS l36 i37 l38 i39 l40 l41 l41.length))) (λu (l42,i43,l44,i45,l46,l47)=>aG Γ (.exit 4) (T9 VR Oi u [] (OS l42 i43 l44 i45 l46 l47 l47.length))) (λ⟨i35,l36,i37,l38,i39,l40,l41⟩ y h=>Ak q [0,2,3,5,16,17,18,24,25,26,31,32,33,34] AD (gC h (λh=>tV q [0,2,3,5,6,7,16,17,18,24,25,26,31,32,33] AD h λh=>tB h λx49 y49 h=>tC h λc50_ h=>tB h λx51 y51 h=>tB h λx52 y52 h=>tT q cJ AD [(qD x49),(sL x51.1 x51.2.1.Params x51.2.1.Ret x51.2.1.Blocks x51.2.2.1 x51.2.2.2.1 x51.2.2.2.2 x51.2.2.2.2.length (mf v25)),(py x52.1.Params x52.1.Ret x52.1.Blocks x52.2.1 x52.2.2.1 x52.2.2.2 x52.2.2.2.length (mf v25))] (c4 (It y49) c50_ (Jt y51) (Hp y52)) (Ak q cJ AD (tN h))) λh=>tS h (gO (C3 (Cw VR Oi q))))) λx53 h=>(match x53,h with|⟨l42,i43,l44,i45,l46,l47⟩,h=>gA (Ak q VR Oi (tN h))))) λh=>tS h (gO (C3 (Cw VU Oi q))))) λx55 h=>(match x55,h with|⟨l28,i29,l30,i31,l32,l33⟩,h=>gA (Ak q VS Oi (tL q h VS Oi (λu (i57,l58,i59,l60,i61,l62,l63)=>(Ek u [(56,(Z5 i57))] (OS l58 i59 l60 i61 l62 l63 l63.length))) (λu (l64,i65,l66,i67,l68,l69)=>aG Γ (.exit 6) (T9 VU Oi u [] (OS l64 i65 l66 i67 l68 l69 l69.length))) (λ⟨i57,l58,i59,l60,i61,l62,l63⟩ y h=>Ak q [0,2,3,16,17,18,54,55,56,57] Oi (gC h (λh=>tV q [0,2,3,8,9,16,17,18,54,55,56] OB h λh=>tB h λx71 y71 h=>tT q cI OB [(ck x71)] (c1 (LG y71)) (tL q h cI OB (λu (i72,l73,i74,l75,i76,l77,l78)=>(Ek u [(64,(Z5 i72))] (OS l73 i74 l75 i76 l77 l78 l78.length))) (λu (l79,i80,l81,i82,l83,l84)=>aG Γ (.exit 8) (T9 VS Oi u [] (OS l79 i80 l81 i82 l83 l84 l84.length))) (λ⟨i72,l73,i74,l75,i76,l77,l78⟩ y h=>Ak q [0,2,3,8,9,16,17,18,54,55,56,62,63,64,65] OB (gC h (λh=>tV q [0,2,3,8,9,10,11,16,17,18,54,55,56,62,63,64] [3,9,11,30000,37006,9100005] h λh=>tC h λc86_ h=>tB h λx87 y87 h=>tT q cI OB [(py x87.1.Params x87.1.Ret x87.1.Blocks x87.2.1 x87.2.2.1 x87.2.2.2 x87.2.2.2.length (mf v25))] (c2 c86_ (Hp y87)) (Ak q cI OB (tN h))) λh=>tS h (gO (C3 (Cw VS Oi q))))) λx88 h=>(match x88,h with|⟨l79,i80,l81,i82,l83,l84⟩,h=>gA (Ak q VS Oi (tN h))))) λh=>tS h (gO (C3 (Cw VU Oi q))))) λx90 h=>(match x90,h with|⟨l64,i65,l66,i67,l68,l69⟩,h=>gA (tW q [0,2,3,16,17,18,84] Oi [0,2,3,16,17,18,84,85] Oi (gC h (λh=>tB h λx92 y92 h=>tB h λx93 y93 h=>tB h λx94 y94 h=>tT q OK F3 [(qD x92),(sL x93.1 x93.2.1.Params x93.2.1.Ret x93.2.1.Blocks x93.2.2.1 x93.2.2.2.1 x93.2.2.2.2 x93.2.2.2.2.length (mf v25)),(py x94.1.Params x94.1.Ret x94.1.Blocks x94.2.1 x94.2.2.1 x94.2.2.2 x94.2.2.2.length (mf v25))] (c3 (It y92) (Jt y93) (Hp y94)) (tS h (gK (C3 Mf)))) λh=>Ak q [0,2,3,16,17,18,101] Oi (gC h (λh=>tB h λx95 y95 h=>tB h λx96 y96 h=>tB h λx97 y97 h=>tT q OK F3 [(qD x95),(sL x96.1 x96.2.1.Params x96.2.1.Ret x96.2.1.Blocks x96.2.2.1 x96.2.2.2.1 x96.2.2.2.2 x96.2.2.2.2.length (mf v25)),(py x97.1.Params x97.1.Ret x97.1.Blocks x97.2.1 x97.2.2.1 x97.2.2.2 x97.2.2.2.length (mf v25))] (c3 (It y95) (Jt y96) (Hp y97)) (tS h (gK (C3 Mf)))) λh=>tS h (gK (C3 (Cw OK F3 q)))))))))))) (match x98,h with|⟨l14,i15,l16,i17,l18,l19⟩,h=>gA (Ak q OK F3 (tN h)))) λh=>tS h (gO (C3 (Cw [] F3 q))))) λx100 h=>(match x100,h with|⟨l8,i9,l10,i11,l12,l13⟩,h=>my (λst' hl101=>tS h (gK (e:=.normal) (J1 Wp hl101)))))
def H1(aN:A6)(a0:Ab)(a4:Int)(a5:Au)(a8:List Kv)(a7:List A6):Option Vg:=
 (some ((C5 a8 aN.v),a0,a4,a5,a7))
variable{v30:A6}
theorem Qz(h:H1 v30 v0 v1 v2 v25 v12=some v23):sP 162 [(.ptr 30000 0),(.agg (Ka v30))] [(Z1 v0.Params v0.Ret v0.Blocks v1 v2 9100005 v12),(Lm 37006 211 v12.length),(9100005,.obj (.map false .i64 (Bf (λ(v_:Aw)=>((Sd v_):AV)) v25)))] (.bool v23.1) [(Z1 v23.2.1.Params v23.2.1.Ret v23.2.1.Blocks v23.2.2.1 v23.2.2.2.1 9100005 v23.2.2.2.2),(Lm 37006 211 v23.2.2.2.2.length),(9100005,.obj (.map false .i64 (Bf (λ(v_:Aw)=>((Sd v_):AV)) v25)))]:=
 sG Tryz.func162 λΓ q=>Ak q Qq Oi (gR q [6] F3 [(14,(.tuple [(mh v25 v30.v),(.bool (C5 v25 v30.v))]))] [] (c1 (show(AVle (.tuple [D7 (.agg [Kk,Kk,Kk,Kk]) (Bf (λ(v_:Aw)=>((Sd v_):AV)) v25) v30.v,.bool (C5 (Bf (λ(v_:Aw)=>((Sd v_):AV)) v25) v30.v)]) (.tuple [(mh v25 v30.v),(.bool (C5 v25 v30.v))])) from(HQ (f:=(λ(v_:Aw)=>((Sd v_):AV))) (l:=v25) (AVle.refl _) rfl))) (Ak q [4] F3 (tS h (Dm Wp))))
def Jl(aN:A6)(a0:Ab)(a4:Int)(a5:Au)(a8:List Kv)(a7:List A6):Option Vg:=
 (some (((((D7 (default:Aw) a8 aN.v).shape.1:Int)==aN.shape.1)&&((((D7 (default:Aw) a8 aN.v).shape.2:Int)==aN.shape.2)&&true)),a0,a4,a5,a7))
theorem T3(h:Jl v30 v0 v1 v2 v25 v12=some v23):sP 163 [(.ptr 30000 0),(.agg (Ka v30))] [(Z1 v0.Params v0.Ret v0.Blocks v1 v2 9100005 v12),(Lm 37006 211 v12.length),(9100005,.obj (.map false .i64 (Bf (λ(v_:Aw)=>((Sd v_):AV)) v25)))] (.bool v23.1) [(Z1 v23.2.1.Params v23.2.1.Ret v23.2.1.Blocks v23.2.2.1 v23.2.2.2.1 9100005 v23.2.2.2.2),(Lm 37006 211 v23.2.2.2.2.length),(9100005,.obj (.map false .i64 (Bf (λ(v_:Aw)=>((Sd v_):AV)) v25)))]:=
 sG Tryz.func163 λΓ q=>Ak q Qq Oi (gR q [4] F3 [(11,(mh v25 v30.v))] [] (c1 (show(AVle (D7 (.agg [Kk,Kk,Kk,Kk]) (Bf (λ(v_:Aw)=>((Sd v_):AV)) v25) v30.v) (mh v25 v30.v)) from(PT (f:=(λ(v_:Aw)=>((Sd v_):AV))) (l:=v25) (AVle.refl _) rfl))) (tS h (Dm Wp)))
def B2(aD:Au)(aE:Int):Int->Option (LR Int (Unit ⊕ Int)):=
 λ(i1:Int)=>(bif (decide (i1<(aD.length:Int))) then(Bh (Bl i1 aD.length) (bif (aE==(aD.getD i1.toNat 0)) then(some (.done (.inr i1))) else(some (.next (Ay (i1+1)))))) else(some (.done (.inl ()))))
def Sc(Γ:G2)(aD:Au)(aE:Int)(r:Int):Exit->St->Prop:=fK Tryz.prog Γ Tryz.f173.results.toList [] (.int .i64 r) []
def Es(aD:Au)(aE:Int):Option Int:=
 ((Af (B2 aD aE) (0:Int)).bind (λx3=>(match x3 with|(.inl _)=>(some (-1:Int))|(.inr r5)=>(some r5))))
theorem Rp(h:Es v2 v1=some v11):sP 173 [(L8 v2),(Z5 v1)] [] (.int .i64 v11) []:=
 sG Tryz.func173 λΓ q=>tW q Fc [] AG [] (tL q h AG [] (λu i1=>(Ek u [(8,(Z5 i1))] [])) (λu x_=>match x_ with|(.inl _)=>aG Γ (.exit 0) (⟨[],[],[]⟩:St)|(.inr r_)=>aR (Sc Γ v2 v1 r_)) (λi1 y h=>Ak q ZZ [] (gC h (λh=>Ak q aa [] (tV q ZQ [] h λh=>gC h (λh=>Ak q [4] [] (tS h (gO (O8 (J1 [] (Le.refl _ _)))))) λh=>Ak q AG [] (tN h))) λh=>tS h (gO (C3 (Cw [] [] q))))) λx3 h=>(match x3,h with | .inl _,h=>gA (Ak q [4] [] (tS h (Dm []))) | .inr r5,h=>Uq (λst' hk=>tS h (gK hk))))
def I4(aB:Au)(aJ:Int):Option Bool:=
 (some (bif (decide ((0:Int)<=aJ)) then(decide (aJ<(aB.length:Int))) else false))
theorem Ux(h:I4 v2 v1=some v3):sP 294 [(L8 v2),(Z5 v1)] [] (.bool v3) []:=
 sG Tryz.func294 λΓ q=>Ak q Fc [] (tU q [4] [] (dK ((decide ((0:Int)<=v1))==true) (c1 (P5 (decide ((0:Int)<=v1))))) (tS h (Dm [])))
def Cy(aB:Au)(aa7:Int)(aZ:Int):JH->Option (LR (Int×Au) (Au ⊕ (Bool×Au))):=
 λ((i1,l2):JH)=>(bif (i1 !=aZ) then(Bh (Bl i1 l2.length) (bif ((l2.getD i1.toNat 0)!=0) then(Bh (Bl i1 l2.length) (some (.done (.inr (((l2.getD i1.toNat 0)!=(Ay (aa7+1))),l2))))) else(Bh (Bl i1 aB.length) ((I4 aB (aB.getD i1.toNat 0)).bind λx7=>(bif (!x7) then(some (.done (.inr (false,l2)))) else(Bh (Bl i1 l2.length) (Bh (Bl i1 aB.length) (some (.next ((aB.getD i1.toNat 0),(l2.set i1.toNat (Ay (aa7+1))))))))))))) else(some (.done (.inl l2))))
def RN(Γ:G2)(aB:Au)(aaC:Au)(aa7:Int)(aZ:Int)(r:jY):Exit->St->Prop:=fK Tryz.prog Γ Tryz.f293.results.toList [(Z4 34001 aaC)] (.bool r.1) [(Z4 34001 r.2)]
def P9(aB:Au)(aaC:Au)(aa7:Int)(aZ:Int):Option jY:=
 ((Af (Cy aB aa7 aZ) (aa7,aaC)).bind (λx10=>(match x10 with|(.inl l3)=>(some (true,l3))|(.inr r12)=>(some r12))))
variable{v31:jY}
theorem PY(h:P9 v2 v17 v1 v11=some v31):sP 293 [(L8 v2),(.vsl 34001 v17.length),(Z5 v1),(Z5 v11)] [(Z4 34001 v17)] (.bool v31.1) [(Z4 34001 v31.2)]:=
 sG Tryz.func293 λΓ q=>tW q [0,1,2,3] [34001] [0,1,2,3,9] [34001] (Ak q QX [34001] (tL q h QX [34001] (λu (i1,l2)=>(Ek u [(1,(.vsl 34001 l2.length)),(10,(Z5 i1))] [(Z4 34001 l2)])) (λu x_=>match x_ with|(.inl l3)=>aG Γ (.exit 0) (⟨[],[(Z4 34001 l3)],[]⟩:St)|(.inr r_)=>aR (RN Γ v2 v17 v1 v11 r_)) (λ⟨i1,l2⟩ y h=>Ak q [0,1,3,9,10,16] [34001] (gC h (λh=>tC h λc4_ h=>tU q [0,1,3,9,10,25] [34001] (c2 c4_ (Eq.refl l2.length)) (gC h (λh=>tC h λc5_ h=>tU q [8] [34001] (c2 c5_ (Eq.refl l2.length)) (tS h (gO (O8 (J1 ZV (Le.refl _ _)))))) λh=>tC h λc6_ h=>tB h λx7 y7 h=>tT q [0,1,3,9,10,38] [34001] [(Z6 x7)] (c2 c6_ (Ux y7)) (gC h (λh=>Ak q [8] [34001] (tS h (gO (O8 (J1 ZV (Le.refl _ _)))))) λh=>tC h λc8_ h=>tU q QX [34001] (c2 c8_ (Eq.refl l2.length)) (gLe (Le.trans (Qt 34001 (show ∀ k_,k_<l2.length->AVleL ((λi_=>AV.eraseAll (λn_=>Bw n_ [34001]) ((J7 (λi=>Aq (l2.getD i 0)) i1.toNat 0 [(.int .i64 (Ay (v1+1)))]) i_)) k_) ((λi=>Aq ((l2.set i1.toNat (Ay (v1+1))).getD i 0)) k_) from(Bn (D8 ..).symm (λk_ hk_=>(Bi (AV.eraseAll (λn_=>Bw n_ [34001])) ((Gs (λ_ _=>rfl) (Ig c8_) rfl) k_ hk_)).trans rfl)))) (Pv (λ(k_:Nat) u=>(Ek u [(1,(.vsl 34001 k_))] [(34001,.arr 1 3 k_ (λi=>Aq ((l2.set i1.toNat (Ay (v1+1))).getD i 0)))])) (show l2.length=(l2.set i1.toNat (Ay (v1+1))).length from(D8 ..).symm))) (tV q QX [34001] h λh=>tN h))))) λh=>tS h (gO (C3 (Cw [] [34001] q))))) λx10 h=>(match x10,h with | .inl l3,h=>gA (Ak q [8] [34001] (tS h (Dm ZV))) | .inr r12,h=>Uq (λst' hk=>tS h (gK hk)))))
def E0(aB:Au)(x1:Int):JH->Option (LR (Int×Au) (Unit ⊕ Bool)):=
 λ((i3,l4):JH)=>(bif (decide (i3<(aB.length:Int))) then(Bh (Bl i3 aB.length) ((bif (((aB.getD i3.toNat 0)!=-2)==true) then P9 aB l4 i3 x1 else some (false,[])).bind λx6=>(Bh ((((aB.getD i3.toNat 0)!=-2)==true)=true->(l4.length=x6.2.length)) (bif (bif ((aB.getD i3.toNat 0)!=-2) then(!x6.1) else false) then(some (.done (.inr false))) else(some (.next ((Ay (i3+1)),(bif (((aB.getD i3.toNat 0)!=-2)==true) then x6.2 else l4)))))))) else(some (.done (.inl ()))))
def OP(Γ:G2)(aB:Au)(r:Bool):Exit->St->Prop:=fK Tryz.prog Γ Tryz.f284.results.toList [] (.bool r) []
def j8(aB:Au)(i3:Int):=(((aB.getD i3.toNat 0)!=-2)==true)
def Ox(aB:Au):Option Bool:=
 ((Es aB (-1:Int)).bind λx1=>(bif (decide (x1<0)) then(some false) else(Bh (0<=(aB.length:Int)/\(aB.length:Int)<=(aB.length:Int)/\(aB.length:Int)<=(room:Int)) ((Af (E0 aB x1) ((0:Int),(List.replicate (aB.length:Int).toNat (0:Int)))).bind (λx8=>(match x8 with|(.inl _)=>(some true)|(.inr r10)=>(some r10)))))))
theorem LB(h:Ox v2=some v3):sP 284 [(L8 v2)] [] (.bool v3) []:=
 sG Tryz.func284 λΓ q=>Ak q [0] [] (tB h λx1 y1 h=>tT q Qq [] [(fH x1)] (c1 (Rp y1)) (Ak q [0,3,9] [] (gC h (λh=>Ak q [2] [] (tS h (Dm []))) λh=>tV q Vw [12] h λh=>by exact gLe (Le.trans (Qt 12 (show ∀ k_,k_<((v2.length:Int).toNat)->AVleL ((λi_=>AV.eraseAll (λn_=>Bw n_ [12]) ((λ_=>[Kk]) i_)) k_) ((λi=>Aq ((List.replicate (v2.length:Int).toNat (0:Int)).getD i 0)) k_) from(λk hk=>Nn (e:=Aq) (d:=(0:Int)) (.cons (AVle.refl _) .nil) _ k (Nq hk)))) (Pv (λ(k_:Nat) u=>(Ek u [(4,(.vsl 12 k_))] (sR 12 k_ v2.length))) (show(v2.length:Int).toNat=(List.replicate (v2.length:Int).toNat (0:Int)).length from(N7 ..).symm))) (Ak q ZT [12] (tL q h ZT [12] (λu (i3,l4)=>(Ek u [(4,(.vsl 12 l4.length)),(15,(Z5 i3))] [(Z4 12 l4)])) (λu x_=>match x_ with|(.inl _)=>aG Γ (.exit 0) (⟨[],[],[]⟩:St)|(.inr r_)=>aR (OP Γ v2 r_)) (λ⟨i3,l4⟩ y h=>Ak q [0,3,4,14,15,16] [12] (gC h (λh=>Ak q [0,3,4,5,14,15] [12] (tC h λc5_ h=>tB h λx6 y6 h=>tC h λc7_ h=>tT q [0,3,4,14,15,30] [12] [⟨[(12,34001)],[],(.bool x6.1),[(Z4 34001 x6.2)],[],[]⟩] (ci c5_ (lL (j8 v2 i3) (c3 (λ(hg:(j8 v2 i3)=true)=>(PY (Db hg y6))) (gI (j8 v2 i3)) (P5 ((v2.getD i3.toNat 0)!=-2))))) (gLe (Le.trans (Qt 12 (show ∀ k_,k_<(bif (j8 v2 i3) then x6.2.length else l4.length)->AVleL ((λi_=>AV.eraseAll (λn_=>Bw n_ [12]) ((λi=>bif (j8 v2 i3) then(λi=>Aq (x6.2.getD i 0)) i else(λi=>Aq (l4.getD i 0)) i) i_)) k_) ((λi=>Aq ((bif (j8 v2 i3) then x6.2 else l4).getD i 0)) k_) from(Bn ay (λk_ hk_=>(Bi (AV.eraseAll (λn_=>Bw n_ [12])) ((λ_ _=>kq) k_ hk_)).trans rfl)))) (Le.trans (Pv (λ(k_:Nat) u=>(Ek u [] [(12,.arr 1 3 k_ (λi=>Aq ((bif (j8 v2 i3) then x6.2 else l4).getD i 0)))])) (show(bif (j8 v2 i3) then x6.2.length else l4.length)=(bif (j8 v2 i3) then x6.2 else l4).length from ay)) (Pv (λ(k_:Nat) u=>(Ek u [(4,(.vsl 12 k_))] [])) (show l4.length=(bif (j8 v2 i3) then x6.2 else l4).length from(kr c7_))))) (gC h (λh=>Ak q [2] [] (tS h (gO (O8 (J1 [] (Le.refl _ _)))))) λh=>Ak q ZT [12] (tN h))))) λh=>tS h (gO (C3 (Cw [] [] q))))) λx8 h=>(match x8,h with | .inl _,h=>gA (Ak q [2] [] (tS h (Dm []))) | .inr r10,h=>Uq (λst' hk=>tS h (gK hk))))))))
def Jo(aB:Au)(aJ:Int):Option Bool:=
 ((I4 aB aJ).bind λx1=>(Bh ((x1==true)=true->(Bl aJ aB.length)) (some (bif x1 then((aB.getD aJ.toNat 0)!=-2) else false))))
theorem Tg(h:Jo v2 v1=some v3):sP 285 [(L8 v2),(Z5 v1)] [] (.bool v3) []:=
 sG Tryz.func285 λΓ q=>Ak q Fc [] (tB h λx1 y1 h=>tC h λc2_ h=>tT q [4] [] [(Z6 x1)] (ci (Ux y1) (V4 (x1==true) (ci c2_ (V4 (x1==true) (c1 (P5 x1)))))) (tS h (Dm [])))
def P8(aB:Au)(aO:Int)(aQ:Int):Option Bool:=
 ((Ox aB).bind λx1=>((bif (x1==true) then Jo aB aO else some false).bind λx2=>((bif ((bif x1 then x2 else false)==true) then Jo aB aQ else some false).bind λx3=>(some (bif (bif x1 then x2 else false) then x3 else false)))))
theorem PX(h:P8 v2 v1 v11=some v3):sP 245 [(L8 v2),(Z5 v1),(Z5 v11)] [] (.bool v3) []:=
 sG Tryz.func245 λΓ q=>Ak q [0,1,2] [] (tB h λx1 y1 h=>tB h λx2 y2 h=>tB h λx3 y3 h=>tT q [6] [] [(Z6 x1),(Z6 x2),(Z6 x3)] (ci (LB y1) (V4 (x1==true) (kA (λ(hg:(x1==true)=true)=>(Tg (Db hg y2))) (P5 x1) (V4 ((bif x1 then x2 else false)==true) (c2 (λ(hg:((bif x1 then x2 else false)==true)=true)=>(Tg (Db hg y3))) (P5 (bif x1 then x2 else false))))))) (tS h (Dm [])))
def Sv(aB:Au)(aO:Int)(aQ:Int):Option Bool:=
 ((P8 aB aO aQ).bind λx1=>((bif (x1==true) then Na aB aO aQ else some (0:Int)).bind λx2=>(some (bif x1 then(x2==aO) else false))))
theorem UB(h:Sv v2 v1 v11=some v3):sP 208 [(L8 v2),(Z5 v1),(Z5 v11)] [] (.bool v3) []:=
 sG Tryz.func208 λΓ q=>Ak q [0,1,2] [] (tB h λx1 y1 h=>tB h λx2 y2 h=>tT q [6] [] [(Z6 x1),(fH x2)] (ci (PX y1) (dK (x1==true) (ci (λ(hg:(x1==true)=true)=>(DK (Db hg y2))) (V4 (x1==true) (c1 (P5 x1)))))) (tS h (Dm [])))
def Fu(aN:A6)(a0:Ab)(a4:Int)(a5:Au)(a8:List Kv)(a7:List A6):Option Vg:=
 (bif (((D7 (default:Aw) a8 aN.v).place.block:Int)==aN.place.block) then(some ((decide (((D7 (default:Aw) a8 aN.v).place.at_:Int)<aN.place.at_)),a0,a4,a5,a7)) else((Sv a5 ((D7 (default:Aw) a8 aN.v).place.block) aN.place.block).bind λx1=>(some (x1,a0,a4,a5,a7))))
theorem Qy(h:Fu v30 v0 v1 v2 v25 v12=some v23):sP 164 [(.ptr 30000 0),(.agg (Ka v30))] [(Z1 v0.Params v0.Ret v0.Blocks v1 v2 9100005 v12),(Lm 37006 211 v12.length),(9100005,.obj (.map false .i64 (Bf (λ(v_:Aw)=>((Sd v_):AV)) v25)))] (.bool v23.1) [(Z1 v23.2.1.Params v23.2.1.Ret v23.2.1.Blocks v23.2.2.1 v23.2.2.2.1 9100005 v23.2.2.2.2),(Lm 37006 211 v23.2.2.2.2.length),(9100005,.obj (.map false .i64 (Bf (λ(v_:Aw)=>((Sd v_):AV)) v25)))]:=
 sG Tryz.func164 λΓ q=>Ak q Qq Oi (gR q [0,3,5] AD [(12,(mh v25 v30.v))] [] (c1 (show(AVle (D7 (.agg [Kk,Kk,Kk,Kk]) (Bf (λ(v_:Aw)=>((Sd v_):AV)) v25) v30.v) (mh v25 v30.v)) from(PT (f:=(λ(v_:Aw)=>((Sd v_):AV))) (l:=v25) (AVle.refl _) rfl))) (Ak q [0,3,5,19] AD (gC h (λh=>Ak q [4] F3 (tS h (Dm Wp))) λh=>tB h λx1 y1 h=>tT q [4] F3 [(Z6 x1)] (c1 (UB y1)) (tS h (Dm Wp)))))
abbrev oz:=(LR (Int×Au×Int×List Ac×Int×Au×List A6) ((Au×Int×List Ac×Int×Au×List A6) ⊕ (Au×Int×List Ac×Int×Au×List A6)))
def Eg(a8:List Kv)(x8:mW):Oh->Option oz:=
 λ((i9,l10,i11,l12,i13,l14,l15):Oh)=>(bif (decide (i9<(x8.2.2.2.length:Int))) then(Bh (Bl i9 x8.2.2.2.length) ((H1 (x8.2.2.2.getD i9.toNat default) (⟨l10,i11,l12⟩:Ab) i13 l14 a8 l15).bind λx29=>(bif (!x29.1) then(some (.done (.inr (x29.2.1.Params,x29.2.1.Ret,x29.2.1.Blocks,x29.2.2.1,x29.2.2.2.1,x29.2.2.2.2)))) else(some (.next ((Ay (i9+1)),x29.2.1.Params,x29.2.1.Ret,x29.2.1.Blocks,x29.2.2.1,x29.2.2.2.1,x29.2.2.2.2)))))) else(some (.done (.inl (l10,i11,l12,i13,l14,l15)))))
def Eh(a8:List Kv)(l21:List A6):Oh->Option oz:=
 λ((i32,l33,i34,l35,i36,l37,l38):Oh)=>(bif (decide (i32<(l21.length:Int))) then(Bh (Bl i32 l21.length) ((Jl (l21.getD i32.toNat default) (⟨l33,i34,l35⟩:Ab) i36 l37 a8 l38).bind λx52=>(bif (!x52.1) then(some (.done (.inr (x52.2.1.Params,x52.2.1.Ret,x52.2.1.Blocks,x52.2.2.1,x52.2.2.2.1,x52.2.2.2.2)))) else(some (.next ((Ay (i32+1)),x52.2.1.Params,x52.2.1.Ret,x52.2.1.Blocks,x52.2.2.1,x52.2.2.2.1,x52.2.2.2.2)))))) else(some (.done (.inl (l33,i34,l35,i36,l37,l38)))))
def Ei(a8:List Kv)(l44:List A6):Oh->Option oz:=
 λ((i55,l56,i57,l58,i59,l60,l61):Oh)=>(bif (decide (i55<(l44.length:Int))) then(Bh (Bl i55 l44.length) ((Fu (l44.getD i55.toNat default) (⟨l56,i57,l58⟩:Ab) i59 l60 a8 l61).bind λx75=>(bif (!x75.1) then(some (.done (.inr (x75.2.1.Params,x75.2.1.Ret,x75.2.1.Blocks,x75.2.2.1,x75.2.2.2.1,x75.2.2.2.2)))) else(some (.next ((Ay (i55+1)),x75.2.1.Params,x75.2.1.Ret,x75.2.1.Blocks,x75.2.2.1,x75.2.2.2.1,x75.2.2.2.2)))))) else(some (.done (.inl (l56,i57,l58,i59,l60,l61)))))
def Lp :Oh->Option (LR (Int×Au×Int×List Ac×Int×Au×List A6) (Int×Ab×Int×Au×List A6)):=
 λ(s_:Oh)=>match s_ with|(i1,l2,i3,l4,i5,l6,l7)=>(some (.done (i1,(⟨l2,i3,l4⟩:Ab),i5,l6,l7)))
def Ue(Γ:G2)(a0:Ab)(a4:Int)(a5:Au)(a8:List Kv)(a7:List A6)(r:eC):Exit->St->Prop:=fK Tryz.prog Γ Tryz.f108.results.toList [(Z1 a0.Params a0.Ret a0.Blocks a4 a5 9100005 a7),(Lm 37006 211 a7.length),(9100005,.obj (.map false .i64 (Bf (λ(v_:Aw)=>((Sd v_):AV)) a8)))] (Z5 r.1) [(Z1 r.2.1.Params r.2.1.Ret r.2.1.Blocks r.2.2.1 r.2.2.2.1 9100005 r.2.2.2.2),(Lm 37006 211 r.2.2.2.2.length),(9100005,.obj (.map false .i64 (Bf (λ(v_:Aw)=>((Sd v_):AV)) a8)))]
def pu(a8:List Kv):=(Bf (λ(v_:Aw)=>((Sd v_):AV)) a8)
def Hb(a0:Ab)(a4:Int)(a5:Au)(a8:List Kv)(a7:List A6):Option eC:=
 ((Nj (S:=Oh) (X:=eC) ((Fs a0 a4 a5 a8 a7).bind λx8=>((Af (Eg a8 x8) ((0:Int),x8.1.Params,x8.1.Ret,x8.1.Blocks,x8.2.1,x8.2.2.1,x8.2.2.2)).bind (λx30=>(match x30 with|(.inl (l16,i17,l18,i19,l20,l21))=>((Af (Eh a8 l21) ((0:Int),l16,i17,l18,i19,l20,l21)).bind (λx53=>(match x53 with|(.inl (l39,i40,l41,i42,l43,l44))=>((Af (Ei a8 l44) ((0:Int),l39,i40,l41,i42,l43,l44)).bind (λx76=>(match x76 with|(.inl (l62,i63,l64,i65,l66,l67))=>(some (.done ((0:Int),(⟨l62,i63,l64⟩:Ab),i65,l66,l67)))|(.inr (l68,i69,l70,i71,l72,l73))=>(some (.next ((7:Int),l68,i69,l70,i71,l72,l73))))))|(.inr (l45,i46,l47,i48,l49,l50))=>(some (.next ((6:Int),l45,i46,l47,i48,l49,l50))))))|(.inr (l22,i23,l24,i25,l26,l27))=>(some (.next ((7:Int),l22,i23,l24,i25,l26,l27))))))) Lp).bind (λx81=>(some x81)))
theorem T5(h:Hb v0 v1 v2 v25 v12=some v13):sP 108 fM [(Z1 v0.Params v0.Ret v0.Blocks v1 v2 9100005 v12),(Lm 37006 211 v12.length),(9100005,.obj (.map false .i64 (Bf (λ(v_:Aw)=>((Sd v_):AV)) v25)))] (Z5 v13.1) [(Z1 v13.2.1.Params v13.2.1.Ret v13.2.1.Blocks v13.2.2.1 v13.2.2.2.1 9100005 v13.2.2.2.2),(Lm 37006 211 v13.2.2.2.2.length),(9100005,.obj (.map false .i64 (Bf (λ(v_:Aw)=>((Sd v_):AV)) v25)))]:=
 sG Tryz.func108 λΓ q=>Ak q [0] F3 (tB h λx81 y81 h=>gS y81 (λ(s_:Oh)=>match s_ with|(i1,l2,i3,l4,i5,l6,l7)=>0) (λ(s_:Oh)=>match s_ with|(i1,l2,i3,l4,i5,l6,l7)=>(⟨[(4,(Z5 i1))],(Z7 l2 i3 l4 i5 l6 l7 l7.length (pu v25)),[]⟩:St)) (λr_=>aR (Ue Γ v0 v1 v2 v25 v12 r_)) (λy h=>tB h λx8 y8 h=>tT q [0] F3 [(py x8.1.Params x8.1.Ret x8.1.Blocks x8.2.1 x8.2.2.1 x8.2.2.2 x8.2.2.2.length (pu v25))] (c1 (Qw y8)) (tW q Qq Oi Qq Oi (Ak q Xp F3 (gU 3 (Ak q QZ F3 (gw true (tU q af Q6 (c1 (show(Bl (0:Int) 3) from(by decide))) (tW q ZU Q6 AE Q6 (tL q h AE Q6 (λu (i9,l10,i11,l12,i13,l14,l15)=>(Ek u [(32,(Z5 i9))] (OS l10 i11 l12 i13 l14 l15 l15.length))) (λu x_=>match x_ with|(.inl (l16,i17,l18,i19,l20,l21))=>aG Γ (.exit 2) (T9 Xp F3 u [] (OS l16 i17 l18 i19 l20 l21 l21.length))|(.inr (l22,i23,l24,i25,l26,l27))=>aG Γ (.goto 0) (T9 [4] F3 u [] (OS l22 i23 l24 i25 l26 l27 l27.length))) (λ⟨i9,l10,i11,l12,i13,l14,l15⟩ y h=>Ak q jv Q6 (gC h (λh=>tV q jy j0 h λh=>tB h λx29 y29 h=>tT q jx Q6 [(sS x29.1 x29.2.1.Params x29.2.1.Ret x29.2.1.Blocks x29.2.2.1 x29.2.2.2.1 x29.2.2.2.2 x29.2.2.2.2.length (pu v25))] (c1 (Qz y29)) (gC h (λh=>tS h (gO (C3 (Cw [4] F3 q)))) λh=>Ak q AE Q6 (tN h))) λh=>tS h (gO (C3 (Cw Xp F3 q))))) λx30 h=>(match x30,h with | .inl ⟨l16,i17,l18,i19,l20,l21⟩,h=>gA (tW q Xp F3 QZ F3 (gw true (tU q af Q6 (c1 (show(Bl (1:Int) 3) from(by decide))) (tW q ZU Q6 AE Q6 (tL q h AE Q6 (λu (i32,l33,i34,l35,i36,l37,l38)=>(Ek u [(32,(Z5 i32))] (OS l33 i34 l35 i36 l37 l38 l38.length))) (λu x_=>match x_ with|(.inl (l39,i40,l41,i42,l43,l44))=>aG Γ (.exit 2) (T9 Xp F3 u [] (OS l39 i40 l41 i42 l43 l44 l44.length))|(.inr (l45,i46,l47,i48,l49,l50))=>aG Γ (.goto 0) (T9 [4] F3 u [] (OS l45 i46 l47 i48 l49 l50 l50.length))) (λ⟨i32,l33,i34,l35,i36,l37,l38⟩ y h=>Ak q jv Q6 (gC h (λh=>tV q jy j0 h λh=>tB h λx52 y52 h=>tT q jx Q6 [(sS x52.1 x52.2.1.Params x52.2.1.Ret x52.2.1.Blocks x52.2.2.1 x52.2.2.2.1 x52.2.2.2.2 x52.2.2.2.2.length (pu v25))] (c1 (T3 y52)) (gC h (λh=>tS h (gO (C3 (Cw [4] F3 q)))) λh=>Ak q AE Q6 (tN h))) λh=>tS h (gO (C3 (Cw Xp F3 q))))) λx53 h=>(match x53,h with | .inl ⟨l39,i40,l41,i42,l43,l44⟩,h=>gA (tW q Xp F3 QZ F3 (gw true (tU q af Q6 (c1 (show(Bl (2:Int) 3) from(by decide))) (tW q ZU Q6 AE Q6 (tL q h AE Q6 (λu (i55,l56,i57,l58,i59,l60,l61)=>(Ek u [(32,(Z5 i55))] (OS l56 i57 l58 i59 l60 l61 l61.length))) (λu x_=>match x_ with|(.inl (l62,i63,l64,i65,l66,l67))=>aG Γ (.exit 2) (T9 Xp F3 u [] (OS l62 i63 l64 i65 l66 l67 l67.length))|(.inr (l68,i69,l70,i71,l72,l73))=>aG Γ (.goto 0) (T9 [4] F3 u [] (OS l68 i69 l70 i71 l72 l73 l73.length))) (λ⟨i55,l56,i57,l58,i59,l60,l61⟩ y h=>Ak q jv Q6 (gC h (λh=>tV q jy j0 h λh=>tB h λx75 y75 h=>tT q jx Q6 [(sS x75.1 x75.2.1.Params x75.2.1.Ret x75.2.1.Blocks x75.2.2.1 x75.2.2.2.1 x75.2.2.2.2 x75.2.2.2.2.length (pu v25))] (c1 (Qy y75)) (gC h (λh=>tS h (gO (C3 (Cw [4] F3 q)))) λh=>Ak q AE Q6 (tN h))) λh=>tS h (gO (C3 (Cw Xp F3 q))))) λx76 h=>(match x76,h with | .inl ⟨l62,i63,l64,i65,l66,l67⟩,h=>gA (tW q Xp F3 QZ F3 (gw false (Ak q [2] F3 (tS h (WI (O8 (J1 Wp (Le.refl _ _)))))))) | .inr ⟨l68,i69,l70,i71,l72,l73⟩,h=>my (λst' hl78=>tS h (XM (Le.trans hl78 Mf))))))))) | .inr ⟨l45,i46,l47,i48,l49,l50⟩,h=>my (λst' hl79=>tS h (XM (Le.trans hl79 Mf))))))))) | .inr ⟨l22,i23,l24,i25,l26,l27⟩,h=>my (λst' hl80=>tS h (XM (Le.trans hl80 Mf))))))))))))) (λ⟨i1,l2,i3,l4,i5,l6,l7⟩ y h=>Ak q [2] F3 (tS h (WI (O8 (J1 Wp (Le.refl _ _)))))) (Uq (λst' hk=>tS h (gK hk))))
def eV:=(λ(v_:Aw)=>((Sd v_):AV))
def pM(x1:eC):List KE:=(Z3 x1.2.1.Params x1.2.1.Ret x1.2.1.Blocks x1.2.2.1 x1.2.2.2.1 x1.2.2.2.2 x1.2.2.2.2.length)
def pN(x2:eC):List KE:=(Z3 x2.2.1.Params x2.2.1.Ret x2.2.1.Blocks x2.2.2.1 x2.2.2.2.1 x2.2.2.2.2 x2.2.2.2.2.length)
def pO(x3:eC):List KE:=(Z3 x3.2.1.Params x3.2.1.Ret x3.2.1.Blocks x3.2.2.1 x3.2.2.2.1 x3.2.2.2.2 x3.2.2.2.2.length)
def Gz(a0:Ab)(a4:Int)(a5:Au)(a7:List A6):Option mV:=
 ((Ha a0 a4 a5 a7).bind λx1=>(bif (x1.1 !=0) then(some (x1.1,x1.2.1,x1.2.2.1,x1.2.2.2.1,x1.2.2.2.2,([]:List Kv))) else((Ga x1.2.1 x1.2.2.1 x1.2.2.2.1 x1.2.2.2.2).bind λx2=>(bif (x2.1 !=0) then(some (x2.1,x2.2.1,x2.2.2.1,x2.2.2.2.1,x2.2.2.2.2,([]:List Kv))) else((Gy x2.2.1 x2.2.2.1 x2.2.2.2.1 x2.2.2.2.2).bind λx3=>(bif (x3.1 !=0) then(some (x3.1,x3.2.1,x3.2.2.1,x3.2.2.2.1,x3.2.2.2.2,([]:List Kv))) else((Ft x3.2.1 x3.2.2.1 x3.2.2.2.1 x3.2.2.2.2).bind λx4=>(bif (x4.1 !=0) then(some (x4.1,x4.2.1,x4.2.2.1,x4.2.2.2.1,x4.2.2.2.2.1,x4.2.2.2.2.2)) else((Hb x4.2.1 x4.2.2.1 x4.2.2.2.1 x4.2.2.2.2.2 x4.2.2.2.2.1).bind λx5=>(bif (x5.1 !=0) then(some (x5.1,x5.2.1,x5.2.2.1,x5.2.2.2.1,x5.2.2.2.2,x4.2.2.2.2.2)) else(some ((0:Int),x5.2.1,x5.2.2.1,x5.2.2.2.1,x5.2.2.2.2,x4.2.2.2.2.2))))))))))))
theorem S0(h:Gz v0 v1 v2 v12=some v27):sP 60 fM (Z3 v0.Params v0.Ret v0.Blocks v1 v2 v12 v12.length) (Z5 v27.1) [(Z1 v27.2.1.Params v27.2.1.Ret v27.2.1.Blocks v27.2.2.1 v27.2.2.2.1 9200005 v27.2.2.2.2.1),(Lm 37006 211 v27.2.2.2.2.1.length),(9200005,.obj (.map false .i64 (Bf (λ(v_:Aw)=>((Sd v_):AV)) v27.2.2.2.2.2)))]:=
 sG Tryz.func60 λΓ q=>tW q [0] F7 [3] VX (Ak q CQ F7 (gU 5 (Ak q OM F7 (gw true (tU q JU F7 (c1 (show(Bl (0:Int) 5) from(by decide))) (tB h λx1 y1 h=>tT q JV F7 [(sV x1.1 (pM x1))] (c1 (T4 y1)) (Ak q WD F7 (gC h (λh=>Ak q [2] F7 (Td (⟨[(2,(Z5 x1.1))],(pM x1),[]⟩:St) (tS h (gK (e:=.ret) (J1 jt (Le.trans (Sq (r:=30000) (j:=5) (nm:=9300005) .i64 rfl rfl (nl rfl) rfl) (Cw (st':=⟨[(2,(Z5 x1.1))],[(Z1 x1.2.1.Params x1.2.1.Ret x1.2.1.Blocks x1.2.2.1 x1.2.2.2.1 9300005 x1.2.2.2.2),(Lm 37006 211 x1.2.2.2.2.length),(9300005,.obj (.map false .i64 (Bf eV ([]:List Kv))))],[]⟩) [2] ZO q))))))) λh=>tW q CQ F7 OM F7 (gw true (tU q JU F7 (c1 (show(Bl (1:Int) 5) from(by decide))) (tB h λx2 y2 h=>tT q JV F7 [(sV x2.1 (pN x2))] (c1 (Rm y2)) (Ak q WD F7 (gC h (λh=>Ak q [2] F7 (Td (⟨[(2,(Z5 x2.1))],(pN x2),[]⟩:St) (tS h (gK (e:=.ret) (J1 jt (Le.trans (Sq (r:=30000) (j:=5) (nm:=9300005) .i64 rfl rfl (nl rfl) rfl) (Cw (st':=⟨[(2,(Z5 x2.1))],[(Z1 x2.2.1.Params x2.2.1.Ret x2.2.1.Blocks x2.2.2.1 x2.2.2.2.1 9300005 x2.2.2.2.2),(Lm 37006 211 x2.2.2.2.2.length),(9300005,.obj (.map false .i64 (Bf eV ([]:List Kv))))],[]⟩) [2] ZO q))))))) λh=>tW q CQ F7 OM F7 (gw true (tU q JU F7 (c1 (show(Bl (2:Int) 5) from(by decide))) (tB h λx3 y3 h=>tT q JV F7 [(sV x3.1 (pO x3))] (c1 (Sz y3)) (Ak q WD F7 (gC h (λh=>Ak q [2] F7 (Td (⟨[(2,(Z5 x3.1))],(pO x3),[]⟩:St) (tS h (gK (e:=.ret) (J1 jt (Le.trans (Sq (r:=30000) (j:=5) (nm:=9300005) .i64 rfl rfl (nl rfl) rfl) (Cw (st':=⟨[(2,(Z5 x3.1))],[(Z1 x3.2.1.Params x3.2.1.Ret x3.2.1.Blocks x3.2.2.1 x3.2.2.2.1 9300005 x3.2.2.2.2),(Lm 37006 211 x3.2.2.2.2.length),(9300005,.obj (.map false .i64 (Bf eV ([]:List Kv))))],[]⟩) [2] ZO q))))))) λh=>tW q CQ F7 OM F7 (gw true (tU q JU F7 (c1 (show(Bl (3:Int) 5) from(by decide))) (tB h λx4 y4 h=>tT q JV Tv [⟨EX,[(9200005,13000005)],(Z5 x4.1),[(Z1 x4.2.1.Params x4.2.1.Ret x4.2.1.Blocks x4.2.2.1 x4.2.2.2.1 9200005 x4.2.2.2.2.1),(Lm 37006 211 x4.2.2.2.2.1.length),(9200005,.obj (.map false .i64 (Bf eV x4.2.2.2.2.2)))],[],[]⟩] (c1 (Qx y4)) (Ak q WD Tv (gC h (λh=>Ak q [2] Tv (tS h (Dm js))) λh=>tW q CQ Tv OM Tv (gw true (tU q JU Tv (c1 (show(Bl (4:Int) 5) from(by decide))) (tB h λx5 y5 h=>tT q JV Tv [⟨[(30000,30000),(37006,37006),(13000005,9100005)],[],(Z5 x5.1),[(Z1 x5.2.1.Params x5.2.1.Ret x5.2.1.Blocks x5.2.2.1 x5.2.2.2.1 9100005 x5.2.2.2.2),(Lm 37006 211 x5.2.2.2.2.length),(9100005,.obj (.map false .i64 (Bf eV x4.2.2.2.2.2)))],[],[]⟩] (c1 (T5 y5)) (Ak q WD Tv (gC h (λh=>Ak q [2] Tv (tS h (Dm js))) λh=>tW q CQ Tv OM Tv (gw false (Ak q [2] Tv (tS h (Dm js))))))))))))))))))))))))))))))))
set_option maxRecDepth 100000
set_option maxHeartbeats 2000000
def pQ(a2:Ab)(aP:Int):AV:=(.agg [(L8 a2.Params),(Z5 a2.Ret),(RJ a2.Blocks),(Z5 aP),cj,.nilm,(AV.list 5 Ka default ([]:List A6) .exact)])
def pP(a2:Ab)(aP:Int):=(⟨[(5,(.ptr 5 0))],[(5,.row 102 [(L8 a2.Params),(Z5 a2.Ret),(RJ a2.Blocks),(Z5 aP),cj,.nilm,(AV.list 5 Ka default ([]:List A6) .exact)])],[]⟩:St)
def nM(a2:Ab)(aP:Int):=(⟨[(5,(.ptr 5 0))],[(5,.row 102 [(L8 a2.Params),(Z5 a2.Ret),(RJ a2.Blocks),(Z5 aP),cj,.nilm,(AV.list 5 Ka default ([]:List A6) (.own 50506))]),(50506,.tok 5 211 (([]:List A6).length))],[]⟩:St)
def Nl(a2:Ab)(aP:Int):Option Int:=
 (bif (bif (decide (aP<0)) then true else(decide ((2:Int)<aP))) then(some (1:Int)) else((Gz a2 aP ([]:Au) ([]:List A6)).bind λx1=>(some x1.1)))
theorem HU(h:Nl v0 v1=some v11):sP 22 [(Yp v0),(Z5 v1)] [] (.int .i64 v11) []:=
 sG Tryz.func22 λΓ q=>Ak q Fd [2] (tU q JW [2] (c2 (gI ((decide (v1<0))==false)) (FM (decide (v1<0)))) (gC h (λh=>Ak q [4] [] (tS h (Dm []))) λh=>gR q [5] [5] [(14,(pQ v0 v1))] [] (c1 (show(AVle (.agg [(L8 v0.Params),(Z5 v0.Ret),(RJ v0.Blocks),(Z5 v1),Ws,.nilm,Ws]) (pQ v0 v1)) from(AVle.agg (.cons (AVle.refl _) (.cons (AVle.refl _) (.cons (AVle.refl _) (.cons (AVle.refl _) (.cons Fe (.cons (AVle.refl _) (.cons Fe .nil)))))))))) (Td (pP v0 v1) (gLe (show Le Γ _ (nM v0 v1) from Le.trans (Cw (st':=(pP v0 v1)) [5] [5] q) (Le.trans (Nt (r:=5) (j:=6) (nm:=50506) (sz':=5) (λi=>Ka (([]:List A6).getD i default)) 211 rfl rfl (nl rfl) rfl (.inl ⟨rfl,rfl⟩) (λh_=>absurd h_ (by decide))) (Cw (st':=(nM v0 v1)) [5] [5,50506] q))) (gLe (show Le Γ _ (⟨[(5,(.ptr 5 0))],[(5,.row 102 [(L8 v0.Params),(Z5 v0.Ret),(RJ v0.Blocks),(Z5 v1),(AV.list 1 Aq 0 ([]:Au) .none),.nilm,(AV.list 5 Ka default ([]:List A6) (.own 50506))]),(50506,.tok 5 211 (([]:List A6).length))],[]⟩:St) from Le.trans (Cw (st':=(nM v0 v1)) [5] [5,50506] q) (Re (.cons (AVle.refl _) .nil) (.row (.cons (AVle.refl _) (.cons (AVle.refl _) (.cons (AVle.refl _) (.cons (AVle.refl _) (.cons AVle.untag (.cons (AVle.refl _) (.cons (AVle.refl _) .nil))))))) (.same .nil)))) (tB h λx1 y1 h=>tT q [4] [] [⟨[(5,30000),(50506,37006)],[(9200005,10000505)],(Z5 x1.1),[(Z1 x1.2.1.Params x1.2.1.Ret x1.2.1.Blocks x1.2.2.1 x1.2.2.2.1 9200005 x1.2.2.2.2.1),(Lm 37006 211 x1.2.2.2.2.1.length),(9200005,.obj (.map false .i64 (Bf (λ(v_:Aw)=>((Sd v_):AV)) x1.2.2.2.2.2)))],[],[]⟩] (c1 (S0 y1)) (tS h (Dm []))))))))
def Qb(aV:Int):Option Bool:=
 (Option.bind (α:=Bool) (bif (aV==4) then(some (aV==4)) else(bif (aV==16) then(some (aV==16)) else(bif (aV==17) then(some (aV==17)) else(bif (aV==18) then(some (aV==18)) else(bif (aV==19) then(some (aV==19)) else(some (aV==20))))))) (λx2=>(bif x2 then(some false) else((Kp aV).bind λx4=>(some x4)))))
theorem QF(h:Qb v1=some v3):sP 92 [(Z5 v1)] [] (.bool v3) []:=
 sG Tryz.func92 λΓ q=>tW q [0] [] Qq [] (tB h λx2 y2 h=>gJ y2 (λb1=>aG Γ .normal (⟨[(0,(Z5 v1)),(4,(.bool b1))],[],[]⟩:St)) (λy h=>Ak q Vw [] (gC h (λh=>tS h (gK (C3 (Cw [0,4] [] q)))) λh=>Ak q Vw [] (gC h (λh=>tS h (gK (C3 (Cw [0,4] [] q)))) λh=>Ak q Vw [] (gC h (λh=>tS h (gK (C3 (Cw [0,4] [] q)))) λh=>Ak q Vw [] (gC h (λh=>tS h (gK (C3 (Cw [0,4] [] q)))) λh=>Ak q Vw [] (gC h (λh=>tS h (gK (C3 (Cw [0,4] [] q)))) λh=>Ak q [0,4] [] (tS h (gK (C3 Mf))))))))) (gA (gC h (λh=>Ak q [2] [] (tS h (Dm []))) λh=>tB h λx4 y4 h=>tT q [2] [] [(Z6 x4)] (c1 (U2 y4)) (tS h (Dm [])))))
def K1(aA:Int):Option Bool:=
 (some (aA !=aA))
theorem Rn(h:K1 v1=some v3):sP 275 [(Z5 v1)] [] (.bool v3) []:=
 sG Tryz.func275 λΓ q=>tW q [0] [] [2] [] (tS h (Dm []))
def Pb(aA:Int)(aX:Int):Option Bool:=
 ((K1 aA).bind λx1=>((bif (x1==true) then K1 aX else some false).bind λx2=>(some (bif (bif x1 then(!x2) else false) then true else(decide (aA<aX))))))
theorem EP(h:Pb v1 v11=some v3):sP 234 [(Z5 v1),(Z5 v11)] [] (.bool v3) []:=
 sG Tryz.func234 λΓ q=>Ak q Fc [] (tB h λx1 y1 h=>tB h λx2 y2 h=>tT q [4] [] [(Z6 x1),(Z6 x2)] (tP (Rn y1) (gI (x1==true)) (λ(hg:(x1==true)=true)=>(Rn (Db hg y2))) (gI (x1==true)) (P5 x1) (V4 ((bif x1 then(!x2) else false)==false) (c1 (FM (bif x1 then(!x2) else false))))) (tS h (Dm [])))
def Ij(aA:Int):Option Bool:=
 (some (aA !=aA))
theorem Ol(h:Ij v1=some v3):sP 235 [(Z5 v1)] [] (.bool v3) []:=
 sG Tryz.func235 λΓ q=>tW q [0] [] [2] [] (tS h (Dm []))
def Bo(aA:Au)(aU:Int):Gu->Option ow:=
 λ((i1,i2):Gu)=>(bif (decide (i1<i2)) then(Bh (Bl (Ay (Rw .u64 (Ki (Ay (i1+i2))) (1:Int))) aA.length) ((Pb (aA.getD (Ay (Rw .u64 (Ki (Ay (i1+i2))) (1:Int))).toNat (0:Int)) aU).bind λx5=>(bif x5 then(some (.next ((Ay ((Ay (Rw .u64 (Ki (Ay (i1+i2))) (1:Int)))+1)),i2))) else(some (.next (i1,(Ay (Rw .u64 (Ki (Ay (i1+i2))) (1:Int))))))))) else(some (.done i1)))
def eW(x6:Int)(aA:Au):=((decide (x6<(aA.length:Int)))==true)
def KH(x6:Int)(aA:Au)(aU:Int):=((eW x6 aA)&&(((aA.getD x6.toNat 0)==aU)==false))
def Dy(aA:Au)(aU:Int):Option (Int×Bool):=
 ((Af (Bo aA aU) ((0:Int),(aA.length:Int))).bind (λx6=>(Bh (((decide (x6<(aA.length:Int)))==true)=true->(Bl x6 aA.length)) (Bh ((((decide (x6<(aA.length:Int)))==true)&&(((aA.getD x6.toNat 0)==aU)==false))=true->(Bl x6 aA.length)) ((bif (((decide (x6<(aA.length:Int)))==true)&&(((aA.getD x6.toNat 0)==aU)==false)) then Ij (aA.getD x6.toNat 0) else some false).bind λx10=>((bif ((((decide (x6<(aA.length:Int)))==true)&&(((aA.getD x6.toNat 0)==aU)==false))&&(x10==true)) then Ij aU else some false).bind λx11=>(some (x6,(bif (decide (x6<(aA.length:Int))) then(bif ((aA.getD x6.toNat 0)==aU) then true else(bif x10 then x11 else false)) else false)))))))))
variable{v32:(Int×Bool)}
theorem Nf(h:Dy v2 v1=some v32):sP 192 [(L8 v2),(Z5 v1)] [] (.tuple [(Z5 v32.1),(.bool v32.2)]) []:=
 sG Tryz.func192 λΓ q=>tW q Fc [] [0,1,6] [] (Ak q WC [] (tL q h WC [] (λu (i1,i2)=>(Ek u [(7,(Z5 i1)),(8,(Z5 i2))] [])) (λu i3=>aG Γ (.exit 0) (T9 JT [] u [(7,(Z5 i3))] [])) (λ⟨i1,i2⟩ y h=>Ak q [0,1,6,7,8,15] [] (gC h (λh=>tU q [0,1,6,7,8,9] [] (c1 (show(0<=(1:Int)) from(by decide))) (tC h λc4_ h=>tB h λx5 y5 h=>tT q [0,1,6,7,8,9,27] [] [(Z6 x5)] (c2 c4_ (EP y5)) (gC h (λh=>Ak q WC [] (tN h)) λh=>Ak q WC [] (tN h)))) λh=>tS h (gO (C3 (Cw JT [] q))))) λx6 h=>gA (tC h λc8_ h=>tC h λc9_ h=>tB h λx10 y10 h=>tB h λx11 y11 h=>tT q [4,5] [] [(Z6 x10),(Z6 x11)] (V4 (eW x6 v2) (ci c8_ (lL (eW x6 v2) (V4 (KH x6 v2 v1) (ci c9_ (V4 (KH x6 v2 v1) (c9 (λ(hg:(KH x6 v2 v1)=true)=>(Ol (Db hg y10))) (gI (KH x6 v2 v1)) (gI ((KH x6 v2 v1)&&(x10==true))) (λ(hg:((KH x6 v2 v1)&&(x10==true))=true)=>(Ol (Db hg y11))) (gI (KH x6 v2 v1)) (show((KH x6 v2 v1)=true->(x10=true->((KH x6 v2 v1)&&(x10==true))=true)) from(λhg=>(aT hg))) (gI (eW x6 v2)) (show((eW x6 v2)=true->(((v2.getD x6.toNat 0)==v1)=false->(KH x6 v2 v1)=true)) from(λhg=>(aF hg))) (P5 (decide (x6<(v2.length:Int))))))))))) (tS h (Dm [])))))
set_option maxRecDepth 100000
set_option maxHeartbeats 2000000
def Ri(aO:Au)(aQ:Au):Int->Option (LR Int (Unit ⊕ Bool)):=
 λ(i1:Int)=>(bif (decide (i1<(aO.length:Int))) then(Bh (Bl i1 aO.length) (Bh (Bl i1 aQ.length) (bif ((aO.getD i1.toNat 0)!=(aQ.getD i1.toNat 0)) then(some (.done (.inr false))) else(some (.next (Ay (i1+1))))))) else(some (.done (.inl ()))))
def Ug(Γ:G2)(aO:Au)(aQ:Au)(r:Bool):Exit->St->Prop:=fK Tryz.prog Γ Tryz.f13.results.toList [] (.bool r) []
def Nu(aO:Au)(aQ:Au):Option Bool:=
 (bif ((aO.length:Int)!=(aQ.length:Int)) then(some false) else((Af (Ri aO aQ) (0:Int)).bind (λx4=>(match x4 with|(.inl _)=>(some true)|(.inr r6)=>(some r6)))))
theorem T7(h:Nu v2 v17=some v3):sP 13 [(L8 v2),(L8 v17)] [] (.bool v3) []:=
 sG Tryz.func13 λΓ q=>tW q Fc [] AH [] (gC h (λh=>Ak q [4] [] (tS h (Dm []))) λh=>Ak q Tw [] (tL q h Tw [] (λu i1=>(Ek u [(5,(Z5 i1))] [])) (λu x_=>match x_ with|(.inl _)=>aG Γ (.exit 0) (⟨[],[],[]⟩:St)|(.inr r_)=>aR (Ug Γ v2 v17 r_)) (λi1 y h=>Ak q [0,1,5,14] [] (gC h (λh=>tC h λc2_ h=>tC h λc3_ h=>tU q [0,1,5,25] [] (c2 c2_ c3_) (gC h (λh=>Ak q [4] [] (tS h (gO (O8 (J1 [] (Le.refl _ _)))))) λh=>Ak q Tw [] (tN h))) λh=>tS h (gO (C3 (Cw [] [] q))))) λx4 h=>(match x4,h with | .inl _,h=>gA (Ak q [4] [] (tS h (Dm []))) | .inr r6,h=>Uq (λst' hk=>tS h (gK hk)))))
def Cb(a2:Ab)(i2:Int):Gu->Option ow:=
 λ((i5,i6):Gu)=>(Bh (Bl i2 a2.Blocks.length) (bif (bif (decide (i6<(((a2.Blocks.getD i2.toNat default).Phis).length:Int))) then(decide (i5<=20000)) else false) then(Bh (Bl i2 a2.Blocks.length) (Bh (Bl i6 ((a2.Blocks.getD i2.toNat default).Phis).length) (Bh (Bl i2 a2.Blocks.length) (Bh (Bl i6 ((a2.Blocks.getD i2.toNat default).Phis).length) (some (.next ((Ay ((Ay ((Ay (i5+1))+(((((a2.Blocks.getD i2.toNat default).Phis).getD i6.toNat default).From).length:Int)))+(((((a2.Blocks.getD i2.toNat default).Phis).getD i6.toNat default).Args).length:Int))),(Ay (i6+1))))))))) else(some (.done i5))))
def Cc(a2:Ab)(i2:Int):Gu->Option ow:=
 λ((i15,i16):Gu)=>(Bh (Bl i2 a2.Blocks.length) (bif (bif (decide (i16<(((a2.Blocks.getD i2.toNat default).Ops).length:Int))) then(decide (i15<=20000)) else false) then(Bh (Bl i2 a2.Blocks.length) (Bh (Bl i16 ((a2.Blocks.getD i2.toNat default).Ops).length) (some (.next ((Ay ((Ay (i15+1))+(((((a2.Blocks.getD i2.toNat default).Ops).getD i16.toNat default).Args).length:Int))),(Ay (i16+1))))))) else(some (.done i15))))
def Cd(a2:Ab):Gu->Option ow:=
 λ((i1,i2):Gu)=>(bif (bif (decide (i2<(a2.Blocks.length:Int))) then(decide (i1<=20000)) else false) then(Bh (Bl i2 a2.Blocks.length) ((Af (Cb a2 i2) ((Ay ((Ay (i1+1))+(((a2.Blocks.getD i2.toNat default).End.To).length:Int))),(0:Int))).bind (λx13=>((Af (Cc a2 i2) (x13,(0:Int))).bind (λx21=>(some (.next (x21,(Ay (i2+1)))))))))) else(some (.done i1)))
def D2(a2:Ab):Option Bool:=
 ((Af (Cd a2) ((a2.Params.length:Int),(0:Int))).bind (λx23=>(some (decide (x23<=20000)))))
set_option maxRecDepth 100000
set_option maxHeartbeats 2000000
def H2(a2:Ab):Option Bool:=
 ((Nl a2 (2:Int)).bind λx1=>(some (x1==0)))
theorem Oc(h:H2 v0=some v3):sP 42 [(Yp v0)] [] (.bool v3) []:=
 sG Tryz.func42 λΓ q=>Ak q [1] [1] (tB h λx1 y1 h=>tT q [2] [] [(fH x1)] (c1 (HU y1)) (tS h (Dm [])))
def In(a2:Ab)(x1:pK):Int->Option (LR Int (Unit ⊕ ((Bool×CS)×Bool))):=
 λ(i2:Int)=>(bif (decide (i2<(a2.Blocks.length:Int))) then(Option.bind (α:=(Unit ⊕ ((Bool×CS)×Bool))) (Bh (Bl i2 a2.Blocks.length) (bif (((a2.Blocks.getD i2.toNat default).End.Kind:Int)!=1) then(some (.inl ())) else(Bh (Bl (0:Int) ((a2.Blocks.getD i2.toNat default).End.To).length) (Bh ((((((a2.Blocks.getD i2.toNat default).End.To).getD (0:Int).toNat (0:Int))!=i2)==true)=true->(Bl (((a2.Blocks.getD i2.toNat default).End.To).getD (0:Int).toNat (0:Int)) x1.1.Pred.length)) (bif (bif ((((a2.Blocks.getD i2.toNat default).End.To).getD (0:Int).toNat (0:Int))!=i2) then(((x1.1.Pred.getD (((a2.Blocks.getD i2.toNat default).End.To).getD (0:Int).toNat (0:Int)).toNat []).length:Int)==1) else false) then(some (.inr ((true,(⟨i2,(((a2.Blocks.getD i2.toNat default).End.To).getD (0:Int).toNat (0:Int)),([]:List Gu)⟩:CS)),true))) else(some (.inl ()))))))) (λx6=>(match x6 with|(.inl _)=>(some (.next (Ay (i2+1))))|(.inr r8)=>(some (.done (.inr r8)))))) else(some (.done (.inl ()))))
abbrev jd:=((Bool×CS)×Bool)
def Yl(Γ:G2)(a2:Ab)(r:jd):Exit->St->Prop:=fK Tryz.prog Γ Tryz.f46.results.toList [] (.tuple [(bif r.1.1 then((.ptr 20000 0):AV) else .nilp),(.bool r.2)]) (bif r.1.1 then(qE 20000 r.1.2.x r.1.2.y) else[])
def nO(a2:Ab)(i2:Int):=((((a2.Blocks.getD i2.toNat default).End.To).getD (0:Int).toNat (0:Int))!=i2)
def Hh(a2:Ab):Option jd:=
 ((Pd a2).bind λx1=>((Af (In a2 x1) (0:Int)).bind (λx9=>(match x9 with|(.inl _)=>(some ((false,(default:CS)),false))|(.inr r11)=>(some r11)))))
variable{v33:jd}
theorem Np(h:Hh v0=some v33):sP 46 [(Yp v0)] [] (.tuple [(bif v33.1.1 then((.ptr 20000 0):AV) else .nilp),(.bool v33.2)]) (bif v33.1.1 then(qE 20000 v33.1.2.x v33.1.2.y) else[]):=
 sG Tryz.func46 λΓ q=>Ak q [1] [1] (tB h λx1 y1 h=>tT q [1,4] [1,4] [⟨[],[],(.tuple [(.agg (P4 x1.1)),(Z5 x1.2)]),[],[],[]⟩] (c1 (DL y1)) (Ak q WE [4] (tL q h WE [4] (λu i2=>(Ek u [(17,(Z5 i2))] [])) (λu x_=>match x_ with|(.inl _)=>aG Γ (.exit 0) (⟨[],[],[]⟩:St)|(.inr r_)=>aR (Yl Γ v0 r_)) (λi2 y h=>Ak q [4,15,16,17,18] [4] (gC h (λh=>tB h λx6 y6 h=>gJ y6 (λx_=>match x_ with|(.inl _)=>aG Γ .normal (⟨[OT,(15,(RJ v0.Blocks)),(RL 16 v0.Blocks.length),(17,(Z5 i2))],[(4,.row 56 [(RK x1.1.Succ),(RK x1.1.Pred)])],[]⟩:St)|(.inr r_)=>aR (Yl Γ v0 r_)) (λy h=>tV q [4,6,7,15,16,17] [4,7] h λh=>Ak q [4,6,7,15,16,17,25] [4,7] (gC h (λh=>tS h (gK (C3 (Cw WE [4] q)))) λh=>tV q [4,6,8,15,16,17] [4] h λh=>tC h λc5_ h=>tU q [4,6,8,15,16,17,42] [4] (dK ((nO v0 i2)==true) (ci c5_ (dK ((nO v0 i2)==true) (c1 (P5 (nO v0 i2)))))) (gC h (λh=>Ak q R8 [46] (tS h (gK (O8 (J1 [(46,20000)] (Le.refl _ _)))))) λh=>tS h (gK (C3 (Cw WE [4] q)))))) (match x6,h with | .inl _,h=>gA (Ak q WE [4] (tN h)) | .inr r8,h=>Uq (λst' hk=>tS h (gO (O8 hk))))) λh=>tS h (gO (C3 (Cw [] [] q))))) λx9 h=>(match x9,h with | .inl _,h=>gA (Ak q R8 [] (tS h (Dm []))) | .inr r11,h=>Uq (λst' hk=>tS h (gK hk))))))
def Ew(aE:Int)(a0:Int)(a4:Int)(a5:List Gu):Option Int:=
 (bif (C5 a5 aE) then(some (D7 (0:Int) a5 aE)) else(some aE))
variable{v34:List Gu}{v35:Int}
theorem Il(h:Ew v1 v11 v20 v34=some v35):sP 83 [(.ptr 30000 0),(Z5 v1)] [(Z2 v11 v20 9100002),(9100002,.obj (.map true .i64 (Bf (λ(v_:Int)=>((Z5 v_):AV)) v34)))] (.int .i64 v35) [(Z2 v11 v20 9100002),(9100002,.obj (.map true .i64 (Bf (λ(v_:Int)=>((Z5 v_):AV)) v34)))]:=
 sG Tryz.func83 λΓ q=>Ak q Fc Oo (gR q [1,5,6] Oo [(13,(.tuple [(.int .i64 (D7 (0:Int) v34 v1)),(.bool (C5 v34 v1))]))] [] (c1 (show(AVle (.tuple [D7 Kk (Bf (λ(v_:Int)=>((Z5 v_):AV)) v34) v1,.bool (C5 (Bf (λ(v_:Int)=>((Z5 v_):AV)) v34) v1)]) (.tuple [(.int .i64 (D7 (0:Int) v34 v1)),(.bool (C5 v34 v1))])) from(HQ (f:=(λ(v_:Int)=>((Z5 v_):AV))) (l:=v34) (AVle.refl _) rfl))) (Ak q [1,5,16] Oo (gC h (λh=>Ak q [4] Oo (tS h (Dm OA))) λh=>Ak q [4] Oo (tS h (Dm OA)))))
def B5(aa0:List (List Bz)):Gu->Option ow:=
 λ((i1,i2):Gu)=>(bif (decide (i2<(aa0.length:Int))) then(Option.bind (α:=Unit) (Bh (Bl i2 aa0.length) (bif (decide (((Ay (i1+((aa0.getD i2.toNat []).length:Int))):Int)<0)) then none else(some ()))) (λx5=>(match x5 with|_=>(some (.next ((Ay (i1+((aa0.getD i2.toNat []).length:Int))),(Ay (i2+1)))))))) else(some (.done i1)))
def B6(aa0:List (List Bz)):(List Bz×Int)->Option (LR (List Bz×Int) (List Bz)):=
 λ((l10,i11):(List Bz×Int))=>(bif (decide (i11<(aa0.length:Int))) then(Bh (Bl i11 aa0.length) (Bh (l10.length+(aa0.getD i11.toNat []).length<=room) (some (.next ((l10++(aa0.getD i11.toNat [])),(Ay (i11+1))))))) else(some (.done l10)))
def Dz(aa0:List (List Bz)):Option (List Bz):=
 ((Af (B5 aa0) ((0:Int),(0:Int))).bind (λx7=>((ZL x7).bind λx9=>((Af (B6 aa0) (x9,(0:Int))).bind (λx15=>(some x15))))))
variable{v36:List (List Bz)}
theorem Ng(h:Dz v36=some v7):sP 84 [(AV.list 1 SM [] v36 .none)] [] (eI v7 20000) [(20000,.tok 6 70 v7.length)]:=
 sG Tryz.func84 λΓ q=>gR q [0] [] [(2,qB)] [] (c1 (Dp 6 E4 (default:Bz))) (tW q Qq [] VY [] (tL q h VY [] (λu (i1,i2)=>(Ek u [(3,(Z5 i1)),(11,(Z5 i2))] [])) (λu i3=>aG Γ (.exit 0) (T9 Qq [] u [(3,(Z5 i3))] [])) (λ⟨i1,i2⟩ y h=>Ak q [0,3,9,10,11,12] [] (gC h (λh=>tB h λx5 y5 h=>gJ y5 (λ_=>aG Γ .normal (⟨[(0,(AV.list 1 SM [] v36 .none)),(3,(.int .i64 (Ay (i1+((v36.getD i2.toNat []).length:Int))))),(9,(AV.list 1 SM [] v36 .none)),(RL 10 v36.length),(11,(Z5 i2))],[],[]⟩:St)) (λy h=>tV q [0,3,5,9,10,11] [] h λh=>tW q VY [] [0,3,9,10,11,20] [] (gC h (λh=>nomatch h) λh=>tS h (gK (C3 (Cw VY [] q))))) (gA (Ak q VY [] (tN h)))) λh=>tS h (gO (C3 (Cw Qq [] q))))) λx7 h=>gA (tB h λx9 y9 h=>tT q [0,6] [24] [⟨[],[(20000,24)],(eI x9 20000),[(20000,.tok 6 70 x9.length)],[],[]⟩] (c1 (jU (e:=E4) (d:=(default:Bz)) x7 x9 y9)) (Ak q RA [24] (tL q h RA [24] (λu (l10,i11)=>(Ek u [(6,(eI l10 24)),(27,(Z5 i11))] [(24,.tok 6 70 l10.length)])) (λu l12=>aG Γ (.exit 2) (⟨[(6,(eI l12 24))],[(24,.tok 6 70 l12.length)],[]⟩:St)) (λ⟨l10,i11⟩ y h=>Ak q [6,25,26,27,28] [24] (gC h (λh=>tV q [6,8,25,26,27] [24] h λh=>tC h λc14_ h=>gR q RA [24] [(33,(AV.list 6 E4 default (l10++(v36.getD i11.toNat [])) (.own 24)))] [] (c4 (Eq.refl l10.length) c14_ (Ot 6 24 E4 (default:Bz) l10 (v36.getD i11.toNat [])) (G9 l10 (v36.getD i11.toNat []))) (Ak q RA [24] (tN h))) λh=>tS h (gO (C3 (Cw [6] [24] q))))) λx15 h=>gA (Ak q [2] [24] (tS h (Dm [(24,20000)]))))))))
def Hn(aJ:Int)(a0:Int)(a4:Int)(a5:List Gu):Option Int:=
 (Option.bind (α:=Int) (bif (aJ==a4) then(some a0) else(some aJ)) (λx2=>(Option.bind (α:=Int) (bif (decide (a4<x2)) then(some (Ay (x2-1))) else(some x2)) (λx5=>(some x5)))))
theorem Pj(h:Hn v1 v11 v20 v34=some v35):sP 142 [(.ptr 30000 0),(Z5 v1)] [(Z2 v11 v20 9100002),(9100002,.obj (.map true .i64 (Bf (λ(v_:Int)=>((Z5 v_):AV)) v34)))] (.int .i64 v35) [(Z2 v11 v20 9100002),(9100002,.obj (.map true .i64 (Bf (λ(v_:Int)=>((Z5 v_):AV)) v34)))]:=
 sG Tryz.func142 λΓ q=>Ak q Fc Oo (tB h λx2 y2 h=>gJ y2 (λi1=>aG Γ .normal (⟨[ml,(1,(Z5 i1))],[(Z2 v11 v20 9100002),(9100002,.obj (.map true .i64 (Bf (λ(v_:Int)=>((Z5 v_):AV)) v34)))],[]⟩:St)) (λy h=>Ak q AH Oo (gC h (λh=>Ak q Fc Oo (tS h (gK (C3 Mf)))) λh=>tS h (gK (C3 (Cw Fc Oo q))))) (gA (tB h λx5 y5 h=>gJ y5 (λi4=>aG Γ .normal (⟨[(1,(Z5 i4))],[(Z2 v11 v20 9100002),(9100002,.obj (.map true .i64 (Bf (λ(v_:Int)=>((Z5 v_):AV)) v34)))],[]⟩:St)) (λy h=>Ak q [1,20] Oo (gC h (λh=>Ak q [1] Oo (tS h (gK (C3 Mf)))) λh=>tS h (gK (C3 (Cw [1] Oo q))))) (gA (Ak q [4] Oo (tS h (Dm OA)))))))
def Gn(aM:A4)(a0:Int)(a4:Int)(a5:List Gu):(Int×Au×Au)->Option (LR (Int×Au×Au) (Au×Au)):=
 λ((i1,l2,l3):(Int×Au×Au))=>(bif (decide (i1<(aM.From.length:Int))) then(Bh (Bl i1 aM.From.length) ((Hn (aM.From.getD i1.toNat 0) a0 a4 a5).bind λx7=>((Dy l2 x7).bind λx8=>((Vf l2 x8.1 [x7]).bind λx9=>(Bh (1=x9.2.2.length) (Bh (Bl i1 aM.Args.length) ((Ew (aM.Args.getD i1.toNat 0) a0 a4 a5).bind λx12=>((Vf l3 x8.1 [x12]).bind λx13=>(Bh (1=x13.2.2.length) (some (.next ((Ay (i1+1)),x9.2.1,x13.2.1)))))))))))) else(some (.done (l2,l3))))
def ed(l5:Au):=(λi=>Aq (l5.getD i 0))
def eZ:AV:=cj
def KI(a5:List Gu):=(Bf (λ(v_:Int)=>((Z5 v_):AV)) a5)
def nQ(aM:A4):List AV:=[(Z5 aM.Bits),(Z5 aM.Dst),(L8 aM.From),(L8 aM.Args)]
def pS(aM:A4)(a0:Int)(a4:Int)(a5:List Gu):=(⟨[ml,(3,(.ptr 3 0)),OT,(5,(.vsl 36005 ([]:Au).length)),(6,(.vsl 36006 ([]:Au).length)),(12,(L8 aM.From)),(RL 13 aM.From.length),(14,Kk)],[(3,.row 67 (nQ aM)),(4,.row 67 [Kk,Kk,Ws,Ws]),(Z2 a0 a4 9100002),(sM 36005),(sM 36006),(KK 9100002 (KI a5))],[]⟩:St)
def K4(aM:A4)(a0:Int)(a4:Int)(a5:List Gu):Option A4:=
 ((Af (Gn aM a0 a4 a5) ((0:Int),([]:Au),([]:Au))).bind (λ(l4,l5)=>(some (⟨aM.Bits,aM.Dst,l4,l5⟩:A4))))
variable{v37:A4}
theorem BS(h:K4 v4 v1 v11 v34=some v37):sP 140 [(.ptr 30000 0),(.agg (Ee v4))] [(Z2 v1 v11 9100002),(9100002,.obj (.map true .i64 (Bf (λ(v_:Int)=>((Z5 v_):AV)) v34)))] (.agg (Ee v37)) [(Z2 v1 v11 9100002),(9100002,.obj (.map true .i64 (Bf (λ(v_:Int)=>((Z5 v_):AV)) v34)))]:=
 sG Tryz.func140 λΓ q=>have hΓ:=q.own;Ak q Vw VT (gR q WF VT [(5,eZ),(6,eZ)] [] (c2 (Dp 1 Aq (0:Int)) (Dp 1 Aq (0:Int))) (Ak q JY VT (gLe (st':=(pS v4 v1 v11 v34)) (Le.trans (Cw (st':=⟨[ml,(3,(.ptr 3 0)),OT,(5,eZ),(6,eZ),(12,(L8 v4.From)),(RL 13 v4.From.length),(14,Kk)],[(3,.row 67 (nQ v4)),(4,.row 67 [Kk,Kk,Ws,Ws]),(Z2 v1 v11 9100002),(KK 9100002 (KI v34))],[]⟩) JY VT q) (Le.trans (Le.trans (HF (t:=5) (nm:=36005) (sz':=1) (λi=>Aq (([]:Au).getD i 0)) 3 rfl rfl) (Cw (st':=⟨[ml,(3,(.ptr 3 0)),OT,(5,(.vsl 36005 ([]:Au).length)),(6,eZ),(12,(L8 v4.From)),(RL 13 v4.From.length),(14,Kk)],[(3,.row 67 (nQ v4)),(4,.row 67 [Kk,Kk,Ws,Ws]),(Z2 v1 v11 9100002),(sM 36005),(KK 9100002 (KI v34))],[]⟩) JY [3,4,30000,36005,9100002] q)) (Le.trans (HF (t:=6) (nm:=36006) (sz':=1) (λi=>Aq (([]:Au).getD i 0)) 3 rfl rfl) (Cw (st':=(pS v4 v1 v11 v34)) JY KB q)))) (tL q h JY KB (λu (i1,l2,l3)=>(Ek u [(KL 36005 l2.length),(6,(.vsl 36006 l3.length)),(14,(Z5 i1))] [(Z4 36005 l2),(Z4 36006 l3)])) (λu (l4,l5)=>aG Γ (.exit 0) (T9 [3,4,5,6] KB u [(KL 36005 l4.length),(6,(.vsl 36006 l5.length))] [(Z4 36005 l4),(36006,.arr 1 3 l5.length (ed l5))])) (λ⟨i1,l2,l3⟩ y h=>Ak q [0,3,4,5,6,12,13,14,15] KB (gC h (λh=>tV q jg KB h λh=>tB h λx7 y7 h=>tT q jg KB [(pz x7 v1 v11 (KI v34))] (ci (Pj y7) (rZ [(.row 137 (mj v1 v11 9100002)),(.obj (.map true .i64 (KI v34)))])) (tB h λx8 y8 h=>tT q [0,3,4,5,6,7,8,9,12,13,14] KB [⟨[],[],(.tuple [(Z5 x8.1),(.bool x8.2)]),[],[36005],[]⟩] (c3 (Nf y8) (show(Ww []) from trivial) (Eq.refl l2.length)) (tB h λx9 y9 h=>tC h λc10_ h=>tC h λc11_ h=>tB h λx12 y12 h=>tB h λx13 y13 h=>tC h λc14_ h=>gR q JY KB [(31,(.vsl 31 1)),(42,(.vsl 42 1))] [⟨ji,[],(.vsl 34000 x9.2.1.length),[(Z4 34000 x9.2.1),(Z4 34002 x9.2.2)],[],[]⟩,(pz x12 v1 v11 (KI v34)),⟨jj,[],(.vsl 34000 x13.2.1.length),[(Z4 34000 x13.2.1),(Z4 34002 x13.2.2)],[],[]⟩] (rW (JG l2 x8.1 [x7] x9 y9 (λi_=>AV.renAll ji ((λi_=>([(Z5 x7)].drop (i_*1)).take 1) i_)) (QO (n:=0) YR rfl)) c11_ (Il y12) (mF [(.row 137 (mj v1 v11 9100002)),(.obj (.map true .i64 (KI v34)))] (c1 (JG l3 x8.1 [x12] x13 y13 (λi_=>AV.renAll jj ((λi_=>([(Z5 x12)].drop (i_*1)).take 1) i_)) (QO (n:=0) YR rfl))))) (Ak q JY KB (tN h))))) λh=>tS h (gO (C3 (Cw [3,4,5,6] KB q))))) λx15 h=>(match x15,h with|⟨l4,l5⟩,h=>gA (tW q [3,4] KB [4] [4,30000,36005,36006,9100002] (Td (⟨[OT],[(4,.row 67 [(Z5 v4.Bits),(Z5 v4.Dst),(.vsl 36005 l4.length),(.vsl 36006 l5.length)]),(Z2 v1 v11 9100002),(Z4 36005 l4),(36006,.arr 1 3 l5.length (ed l5)),(KK 9100002 (KI v34))],[]⟩:St) (tS h (gK (e:=.ret) (J1 OA (Le.trans (Le.trans (le_freeze (nm:=36005) (sz:=1) (n:=l4.length) (e:=3) (f:=(λi=>Aq (l4.getD i 0))) (g:=(λi=>Aq (l4.getD i 0))) rfl ⟨rfl,trivial⟩ (λ_ _=>rfl) (by rw[hΓ];rfl)) (I7 (st':=⟨[OT],[(4,.row 67 [(Z5 v4.Bits),(Z5 v4.Dst),(Wm l4 36005),(.vsl 36006 l5.length)]),(Z2 v1 v11 9100002),(Wt 36005 l4.length),(36006,.arr 1 3 l5.length (ed l5)),(KK 9100002 (KI v34))],[]⟩) (by kernel_rfl))) (Le.trans (le_freeze (nm:=36006) (sz:=1) (n:=l5.length) (e:=3) (f:=(ed l5)) (g:=(ed l5)) rfl ⟨rfl,trivial⟩ (λ_ _=>rfl) (by rw[hΓ];rfl)) (I7 (st':=⟨[OT],[(4,.row 67 [(Z5 v4.Bits),(Z5 v4.Dst),(Wm l4 36005),(Wm l5 36006)]),(Z2 v1 v11 9100002),(Wt 36005 l4.length),(Wt 36006 l5.length),(KK 9100002 (KI v34))],[]⟩) (by kernel_rfl))))))))))))))
def Mq(a6:Au)(a0:Int)(a4:Int)(a5:List Gu):JH->Option ov:=
 λ((i2,l3):JH)=>(bif (decide (i2<(a6.length:Int))) then(Bh (Bl i2 a6.length) ((Ew (a6.getD i2.toNat 0) a0 a4 a5).bind λx6=>(Bh (Bl i2 l3.length) (some (.next ((Ay (i2+1)),(l3.set i2.toNat x6))))))) else(some (.done l3)))
def kL(a5:List Gu):=(Bf (λ(v_:Int)=>((Z5 v_):AV)) a5)
def Qc(a6:Au)(a0:Int)(a4:Int)(a5:List Gu):Option Au:=
 (Bh (0<=(a6.length:Int)/\(a6.length:Int)<=(a6.length:Int)/\(a6.length:Int)<=(room:Int)) ((Af (Mq a6 a0 a4 a5) ((0:Int),(List.replicate (a6.length:Int).toNat (0:Int)))).bind (λx8=>(some x8))))
theorem QK(h:Qc v2 v1 v11 v34=some v17):sP 141 [(L8 v2),(.clo 83 fM [])] [(Z2 v1 v11 9100002),(9100002,.obj (.map true .i64 (Bf (λ(v_:Int)=>((Z5 v_):AV)) v34)))] (Wm v17 20000) [(Z2 v1 v11 9100002),(9100002,.obj (.map true .i64 (Bf (λ(v_:Int)=>((Z5 v_):AV)) v34))),(Wt 20000 v17.length)]:=
 sG Tryz.func141 λΓ q=>have hΓ:=q.own;gR q Fc Oo [(4,cj)] [] (c1 (Dp 1 Aq (0:Int))) (tV q Tw N8 h λh=>by exact gLe (Le.trans (Qt 10 (show ∀ k_,k_<((v2.length:Int).toNat)->AVleL ((λi_=>AV.eraseAll (λn_=>Bw n_ N8) ((λ_=>[Kk]) i_)) k_) ((λi=>Aq ((List.replicate (v2.length:Int).toNat (0:Int)).getD i 0)) k_) from(λk hk=>Nn (e:=Aq) (d:=(0:Int)) (.cons (AVle.refl _) .nil) _ k (Nq hk)))) (Pv (λ(k_:Nat) u=>(Ek u [(KL 10 k_)] (sR 10 k_ v2.length))) (show(v2.length:Int).toNat=(List.replicate (v2.length:Int).toNat (0:Int)).length from(N7 ..).symm))) (Ak q EG N8 (tL q h EG N8 (λu (i2,l3)=>(Ek u [(KL 10 l3.length),(13,(Z5 i2))] [(Z4 10 l3)])) (λu l4=>aG Γ (.exit 0) (T9 [5] N8 u [(KL 10 l4.length)] [(Z4 10 l4)])) (λ⟨i2,l3⟩ y h=>Ak q [1,5,11,12,13,14] N8 (gC h (λh=>tV q [1,5,6,7,11,12,13] N8 h λh=>tB h λx6 y6 h=>tC h λc7_ h=>tT q EG N8 [(pz x6 v1 v11 (kL v34))] (ci (Il y6) (mF [(.row 137 (mj v1 v11 9100002)),(.obj (.map true .i64 (kL v34)))] (c2 c7_ (Eq.refl l3.length)))) (gLe (Le.trans (Qt 10 (show ∀ k_,k_<l3.length->AVleL ((λi_=>AV.eraseAll (λn_=>Bw n_ N8) ((J7 (λi=>Aq (l3.getD i 0)) i2.toNat 0 [(Z5 x6)]) i_)) k_) ((λi=>Aq ((l3.set i2.toNat x6).getD i 0)) k_) from(Bn (D8 ..).symm (λk_ hk_=>(Bi (AV.eraseAll (λn_=>Bw n_ N8)) ((Gs (λ_ _=>rfl) (Ig c7_) rfl) k_ hk_)).trans rfl)))) (Pv (λ(k_:Nat) u=>(Ek u [(KL 10 k_)] [(10,.arr 1 3 k_ (λi=>Aq ((l3.set i2.toNat x6).getD i 0)))])) (show l3.length=(l3.set i2.toNat x6).length from(D8 ..).symm))) (Ak q EG N8 (tN h)))) λh=>tS h (gO (C3 (Cw [5] N8 q))))) λx8 h=>gA (Ak q [4] N8 (Td (⟨[(4,(.vsl 10 x8.length))],[(Z4 10 x8),(Z2 v1 v11 9100002),(KK 9100002 (kL v34))],[]⟩:St) (tS h (gK (e:=.ret) (J1 nJ (Le.trans (le_freeze (nm:=10) (sz:=1) (n:=x8.length) (e:=3) (f:=(λi=>Aq (x8.getD i 0))) (g:=(λi=>Aq (x8.getD i 0))) rfl ⟨rfl,trivial⟩ (λ_ _=>rfl) (by rw[hΓ];rfl)) (I7 (st':=⟨[(4,(Wm x8 10))],[(Wt 10 x8.length),(Z2 v1 v11 9100002),(KK 9100002 (kL v34))],[]⟩) (by kernel_rfl)))))))))))
def I9(a6:Au)(a0:Int)(a4:Int)(a5:List Gu):JH->Option ov:=
 λ((i2,l3):JH)=>(bif (decide (i2<(a6.length:Int))) then(Bh (Bl i2 a6.length) ((Hn (a6.getD i2.toNat 0) a0 a4 a5).bind λx6=>(Bh (Bl i2 l3.length) (some (.next ((Ay (i2+1)),(l3.set i2.toNat x6))))))) else(some (.done l3)))
def kM(a5:List Gu):=(Bf (λ(v_:Int)=>((Z5 v_):AV)) a5)
def Mr(a6:Au)(a0:Int)(a4:Int)(a5:List Gu):Option Au:=
 (Bh (0<=(a6.length:Int)/\(a6.length:Int)<=(a6.length:Int)/\(a6.length:Int)<=(room:Int)) ((Af (I9 a6 a0 a4 a5) ((0:Int),(List.replicate (a6.length:Int).toNat (0:Int)))).bind (λx8=>(some x8))))
theorem EV(h:Mr v2 v1 v11 v34=some v17):sP 141 [(L8 v2),(.clo 142 fM [])] [(Z2 v1 v11 9100002),(9100002,.obj (.map true .i64 (Bf (λ(v_:Int)=>((Z5 v_):AV)) v34)))] (Wm v17 20000) [(Z2 v1 v11 9100002),(9100002,.obj (.map true .i64 (Bf (λ(v_:Int)=>((Z5 v_):AV)) v34))),(Wt 20000 v17.length)]:=
 sG Tryz.func141 λΓ q=>have hΓ:=q.own;gR q Fc Oo [(4,cj)] [] (c1 (Dp 1 Aq (0:Int))) (tV q Tw N8 h λh=>by exact gLe (Le.trans (Qt 10 (show ∀ k_,k_<((v2.length:Int).toNat)->AVleL ((λi_=>AV.eraseAll (λn_=>Bw n_ N8) ((λ_=>[Kk]) i_)) k_) ((λi=>Aq ((List.replicate (v2.length:Int).toNat (0:Int)).getD i 0)) k_) from(λk hk=>Nn (e:=Aq) (d:=(0:Int)) (.cons (AVle.refl _) .nil) _ k (Nq hk)))) (Pv (λ(k_:Nat) u=>(Ek u [(KL 10 k_)] (sR 10 k_ v2.length))) (show(v2.length:Int).toNat=(List.replicate (v2.length:Int).toNat (0:Int)).length from(N7 ..).symm))) (Ak q EG N8 (tL q h EG N8 (λu (i2,l3)=>(Ek u [(KL 10 l3.length),(13,(Z5 i2))] [(Z4 10 l3)])) (λu l4=>aG Γ (.exit 0) (T9 [5] N8 u [(KL 10 l4.length)] [(Z4 10 l4)])) (λ⟨i2,l3⟩ y h=>Ak q [1,5,11,12,13,14] N8 (gC h (λh=>tV q [1,5,6,7,11,12,13] N8 h λh=>tB h λx6 y6 h=>tC h λc7_ h=>tT q EG N8 [(pz x6 v1 v11 (kM v34))] (ci (Pj y6) (mF [(.row 137 (mj v1 v11 9100002)),(.obj (.map true .i64 (kM v34)))] (c2 c7_ (Eq.refl l3.length)))) (gLe (Le.trans (Qt 10 (show ∀ k_,k_<l3.length->AVleL ((λi_=>AV.eraseAll (λn_=>Bw n_ N8) ((J7 (λi=>Aq (l3.getD i 0)) i2.toNat 0 [(Z5 x6)]) i_)) k_) ((λi=>Aq ((l3.set i2.toNat x6).getD i 0)) k_) from(Bn (D8 ..).symm (λk_ hk_=>(Bi (AV.eraseAll (λn_=>Bw n_ N8)) ((Gs (λ_ _=>rfl) (Ig c7_) rfl) k_ hk_)).trans rfl)))) (Pv (λ(k_:Nat) u=>(Ek u [(KL 10 k_)] [(10,.arr 1 3 k_ (λi=>Aq ((l3.set i2.toNat x6).getD i 0)))])) (show l3.length=(l3.set i2.toNat x6).length from(D8 ..).symm))) (Ak q EG N8 (tN h)))) λh=>tS h (gO (C3 (Cw [5] N8 q))))) λx8 h=>gA (Ak q [4] N8 (Td (⟨[(4,(.vsl 10 x8.length))],[(Z4 10 x8),(Z2 v1 v11 9100002),(KK 9100002 (kM v34))],[]⟩:St) (tS h (gK (e:=.ret) (J1 nJ (Le.trans (le_freeze (nm:=10) (sz:=1) (n:=x8.length) (e:=3) (f:=(λi=>Aq (x8.getD i 0))) (g:=(λi=>Aq (x8.getD i 0))) rfl ⟨rfl,trivial⟩ (λ_ _=>rfl) (by rw[hΓ];rfl)) (I7 (st':=⟨[(4,(Wm x8 10))],[(Wt 10 x8.length),(Z2 v1 v11 9100002),(KK 9100002 (kM v34))],[]⟩) (by kernel_rfl)))))))))))
abbrev o4:=(Int×List A4)
def Hl(a1:Ac)(a0:Int)(a4:Int)(a5:List Gu):o4->Option (LR (Int×List A4) (List A4)):=
 λ((i2,l3):o4)=>(bif (decide (i2<(a1.Phis.length:Int))) then(Bh (Bl i2 a1.Phis.length) ((K4 (a1.Phis.getD i2.toNat default) a0 a4 a5).bind λx6=>(Bh (Bl i2 l3.length) (some (.next ((Ay (i2+1)),(l3.set i2.toNat (⟨x6.Bits,x6.Dst,x6.From,x6.Args⟩:A4)))))))) else(some (.done l3)))
abbrev o5:=(Int×List Bz)
def Hm(a1:Ac)(a0:Int)(a4:Int)(a5:List Gu):o5->Option (LR (Int×List Bz) (List Bz)):=
 λ((i11,l12):o5)=>(bif (decide (i11<(a1.Ops.length:Int))) then(Bh (Bl i11 a1.Ops.length) ((Qc ((a1.Ops.getD i11.toNat default).Args) a0 a4 a5).bind λx15=>(Bh (Bl i11 l12.length) (some (.next ((Ay (i11+1)),(l12.set i11.toNat (⟨(a1.Ops.getD i11.toNat default).Kind,(a1.Ops.getD i11.toNat default).Bits,(a1.Ops.getD i11.toNat default).Lanes,(a1.Ops.getD i11.toNat default).Dst,x15,(a1.Ops.getD i11.toNat default).Imm⟩:Bz)))))))) else(some (.done l12)))
def Xs(a1:Ac)(i11:Int):=(a1.Ops.getD i11.toNat default)
def eg(x8:List A4):=(λi=>Ee (x8.getD i default))
def AK(a5:List Gu):=(Bf (λ(v_:Int)=>((Z5 v_):AV)) a5)
def nT(a1:Ac):=(List.replicate (a1.Ops.length:Int).toNat (default:Bz))
def nS(a1:Ac):=(List.replicate (a1.Phis.length:Int).toNat (default:A4))
def kN(a0:Int)(a4:Int):Own:=(.row 137 (mj a0 a4 9100002))
def nU(l12:List Bz)(i11:Int)(a1:Ac)(x15:Au):=(l12.set i11.toNat (⟨(Xs a1 i11).Kind,(Xs a1 i11).Bits,(Xs a1 i11).Lanes,(Xs a1 i11).Dst,x15,(Xs a1 i11).Imm⟩:Bz))
def ee:List AV:=[Ws,Ws,Kk,Kk,Ws]
def pU(a1:Ac):List AV:=[(pF a1.Phis),(pG a1.Ops),(Z5 a1.End.Kind),(Z5 a1.End.Arg),(L8 a1.End.To)]
def pV(a1:Ac)(i11:Int)(x15:Au):List AV:=[(.int .i64 (Xs a1 i11).Kind),(.int .i64 (Xs a1 i11).Bits),(.int .i64 (Xs a1 i11).Lanes),(.int .i64 (Xs a1 i11).Dst),(L8 x15),(.int .u64 (Xs a1 i11).Imm)]
def pT(x8:List A4)(l12:List Bz)(i11:Int)(a1:Ac):List eO:=[ml,(3,(.ptr 3 0)),OT,(KL 15 x8.length),(8,(.vsl 34 l12.length)),(9,(Z5 i11)),(10,(.ptr 10 0)),(36,(pG a1.Ops)),(RL 37 a1.Ops.length),(38,(Z5 i11))]
def Hk(a1:Ac)(a0:Int)(a4:Int)(a5:List Gu):Option Ac:=
 (Bh (0<=(a1.Phis.length:Int)/\(a1.Phis.length:Int)<=(a1.Phis.length:Int)/\(a1.Phis.length:Int)<=(room:Int)) ((Af (Hl a1 a0 a4 a5) ((0:Int),(List.replicate (a1.Phis.length:Int).toNat (default:A4)))).bind (λx8=>(Bh (0<=(a1.Ops.length:Int)/\(a1.Ops.length:Int)<=(a1.Ops.length:Int)/\(a1.Ops.length:Int)<=(room:Int)) ((Af (Hm a1 a0 a4 a5) ((0:Int),(List.replicate (a1.Ops.length:Int).toNat (default:Bz)))).bind (λx17=>((Ew a1.End.Arg a0 a4 a5).bind λx19=>((Mr a1.End.To a0 a4 a5).bind λx20=>(some (⟨x8,x17,(⟨a1.End.Kind,x19,x20⟩:F4)⟩:Ac))))))))))
variable{v38:Ac}
theorem Pi(h:Hk v9 v1 v11 v34=some v38):sP 85 [(.ptr 30000 0),(.agg (Bm v9))] [(Z2 v1 v11 9100002),(9100002,.obj (.map true .i64 (Bf (λ(v_:Int)=>((Z5 v_):AV)) v34)))] (.agg (Bm v38)) [(Z2 v1 v11 9100002),(9100002,.obj (.map true .i64 (Bf (λ(v_:Int)=>((Z5 v_):AV)) v34)))]:=
 sG Tryz.func85 λΓ q=>have hΓ:=q.own;Ak q Vw VT (tV q RF Vs h λh=>by exact gLe (Le.trans (Qt 15 (show ∀ k_,k_<((v9.Phis.length:Int).toNat)->AVleL ((λi_=>AV.eraseAll (λn_=>Bw n_ Vs) ((λ_=>[Kk,Kk,Ws,Ws]) i_)) k_) ((λi=>Ee ((nS v9).getD i default)) k_) from(λk hk=>Nn (e:=Ee) (d:=(default:A4)) (.cons (AVle.refl _) (.cons (AVle.refl _) (.cons (λ_ _ _ _ _ hh=>AVle.untag _ _ _ _ _ (Fe _ _ _ _ _ hh)) (.cons (λ_ _ _ _ _ hh=>AVle.untag _ _ _ _ _ (Fe _ _ _ _ _ hh)) .nil)))) _ k (Nq hk)))) (Pv (λ(k_:Nat) u=>(Ek u [(KL 15 k_)] [(15,.arr 4 67 k_ (λi=>Ee ((nS v9).getD i default)))])) (show(v9.Phis.length:Int).toNat=(nS v9).length from(N7 ..).symm))) (Ak q cS Vs (tL q h cS Vs (λu (i2,l3)=>(Ek u [(KL 15 l3.length),(19,(Z5 i2))] (fG 15 l3))) (λu l4=>aG Γ (.exit 0) (T9 RF Vs u [(KL 15 l4.length)] (fG 15 l4))) (λ⟨i2,l3⟩ y h=>Ak q [0,3,4,5,17,18,19,20] Vs (gC h (λh=>tV q [0,3,4,5,6,7,17,18,19] [3,4,7,15,30000,9100002] h λh=>tB h λx6 y6 h=>tC h λc7_ h=>tT q cS Vs [⟨OA,[],(.agg (Ee x6)),[(Z2 v1 v11 9100002),(KK 9100002 (AK v34))],[],Oo⟩] (ci (BS y6) (mF [(kN v1 v11),(.obj (.map true .i64 (AK v34)))] (c2 c7_ (Eq.refl l3.length)))) (gLe (Le.trans (Qt 15 (show ∀ k_,k_<l3.length->AVleL ((λi_=>AV.eraseAll (λn_=>Bw n_ Vs) ((J7 (λi=>Ee (l3.getD i default)) i2.toNat 0 (Ee x6)) i_)) k_) ((λi=>Ee ((l3.set i2.toNat (⟨x6.Bits,x6.Dst,x6.From,x6.Args⟩:A4)).getD i default)) k_) from(Bn (D8 ..).symm (λk_ hk_=>(Bi (AV.eraseAll (λn_=>Bw n_ Vs)) ((Gs (λ_ _=>rfl) (Ig c7_) rfl) k_ hk_)).trans rfl)))) (Pv (λ(k_:Nat) u=>(Ek u [(KL 15 k_)] [(15,.arr 4 67 k_ (λi=>Ee ((l3.set i2.toNat (⟨x6.Bits,x6.Dst,x6.From,x6.Args⟩:A4)).getD i default)))])) (show l3.length=(l3.set i2.toNat (⟨x6.Bits,x6.Dst,x6.From,x6.Args⟩:A4)).length from(D8 ..).symm))) (Ak q cS Vs (tN h)))) λh=>tS h (gO (C3 (Cw RF Vs q))))) λx8 h=>gA (tV q ab Vq h λh=>by exact gLe (Le.trans (Qt 34 (show ∀ k_,k_<((v9.Ops.length:Int).toNat)->AVleL ((λi_=>AV.eraseAll (λn_=>Bw n_ Vq) ((λ_=>[Kk,Kk,Kk,Kk,Ws,(.int .u64 (0:Int))]) i_)) k_) ((λi=>E4 ((nT v9).getD i default)) k_) from(λk hk=>Nn (e:=E4) (d:=(default:Bz)) (.cons (AVle.refl _) (.cons (AVle.refl _) (.cons (AVle.refl _) (.cons (AVle.refl _) (.cons (λ_ _ _ _ _ hh=>AVle.untag _ _ _ _ _ (Fe _ _ _ _ _ hh)) (.cons (AVle.refl _) .nil)))))) _ k (Nq hk)))) (Pv (λ(k_:Nat) u=>(Ek u [(8,(.vsl 34 k_))] [(34,.arr 6 70 k_ (λi=>E4 ((nT v9).getD i default)))])) (show(v9.Ops.length:Int).toNat=(nT v9).length from(N7 ..).symm))) (Ak q cQ Vq (tL q h cQ Vq (λu (i11,l12)=>(Ek u [(8,(.vsl 34 l12.length)),(38,(Z5 i11))] [(WR 34 l12)])) (λu l13=>aG Γ (.exit 2) (T9 ab Vq u [(8,(.vsl 34 l13.length))] [(WR 34 l13)])) (λ⟨i11,l12⟩ y h=>Ak q [0,3,4,5,8,36,37,38,39] Vq (gC h (λh=>tV q ju jf h λh=>tB h λx15 y15 h=>tT q ju [3,4,10,15,34,47,30000,9100002] [(tA 47 x15 v1 v11 (AK v34) x15.length)] (ci (QK y15) (rZ [(kN v1 v11),(.obj (.map true .i64 (AK v34)))])) (Td (⟨(pT x8 l12 i11 v9),[(3,.row 64 (pU v9)),(4,.row 64 ee),(10,.row 70 [(.int .i64 (Xs v9 i11).Kind),(.int .i64 (Xs v9 i11).Bits),(.int .i64 (Xs v9 i11).Lanes),(.int .i64 (Xs v9 i11).Dst),(Wm x15 47),(.int .u64 (Xs v9 i11).Imm)]),(15,.arr 4 67 x8.length (eg x8)),(WR 34 l12),(Wt 47 x15.length),(Z2 v1 v11 9100002),(KK 9100002 (AK v34))],[]⟩:St) (gLe (show Le Γ _ (⟨(pT x8 l12 i11 v9),[(3,.row 64 (pU v9)),(4,.row 64 ee),(10,.row 70 (pV v9 i11 x15)),(15,.arr 4 67 x8.length (eg x8)),(WR 34 l12),(Z2 v1 v11 9100002),(KK 9100002 (AK v34))],[]⟩:St) from Cw ju jf q) (tC h λc16_ h=>tU q cQ Vq (c2 c16_ (Eq.refl l12.length)) (gLe (Le.trans (Qt 34 (show ∀ k_,k_<l12.length->AVleL ((λi_=>AV.eraseAll (λn_=>Bw n_ Vq) ((J7 (λi=>E4 (l12.getD i default)) i11.toNat 0 (pV v9 i11 x15)) i_)) k_) ((λi=>E4 ((nU l12 i11 v9 x15).getD i default)) k_) from(Bn (D8 ..).symm (λk_ hk_=>(Bi (AV.eraseAll (λn_=>Bw n_ Vq)) ((Gs (λ_ _=>rfl) (Ig c16_) rfl) k_ hk_)).trans rfl)))) (Pv (λ(k_:Nat) u=>(Ek u [(8,(.vsl 34 k_))] [(34,.arr 6 70 k_ (λi=>E4 ((nU l12 i11 v9 x15).getD i default)))])) (show l12.length=(nU l12 i11 v9 x15).length from(D8 ..).symm))) (Ak q cQ Vq (tN h))))))) λh=>tS h (gO (C3 (Cw ab Vq q))))) λx17 h=>gA (tB h λx19 y19 h=>tB h λx20 y20 h=>tT q [4,5,8,11] [4,11,15,34,67,30000,9100002] [(pz x19 v1 v11 (AK v34)),(tA 67 x20 v1 v11 (AK v34) x20.length)] (ci (Il y19) (mF [(kN v1 v11),(.obj (.map true .i64 (AK v34)))] (ci (EV y20) (rZ [(kN v1 v11),(.obj (.map true .i64 (AK v34)))])))) (Td (⟨[OT,(KL 15 x8.length),(8,(.vsl 34 x17.length)),(11,(.ptr 11 0))],[(4,.row 64 ee),(11,.row 62 [(Z5 v9.End.Kind),(Z5 x19),(Wm x20 67)]),(15,.arr 4 67 x8.length (eg x8)),(WR 34 x17),(Wt 67 x20.length),(Z2 v1 v11 9100002),(KK 9100002 (AK v34))],[]⟩:St) (gLe (Le.trans (le_freeze (nm:=15) (sz:=4) (n:=x8.length) (e:=67) (f:=(eg x8)) (g:=(eg x8)) rfl ⟨rfl,trivial⟩ (λ_ _=>rfl) (by rw[hΓ];rfl)) (I7 (st':=⟨[OT,(5,(AV.list 4 Ee default x8 (.own 15))),(8,(.vsl 34 x17.length)),(11,(.ptr 11 0))],[(4,.row 64 ee),(11,.row 62 [(Z5 v9.End.Kind),(Z5 x19),(Wm x20 67)]),(15,.tok 4 67 x8.length),(WR 34 x17),(Wt 67 x20.length),(Z2 v1 v11 9100002),(KK 9100002 (AK v34))],[]⟩) (by kernel_rfl))) (gLe (Le.trans (le_freeze (nm:=34) (sz:=6) (n:=x17.length) (e:=70) (f:=(λi=>E4 (x17.getD i default))) (g:=(λi=>E4 (x17.getD i default))) rfl ⟨rfl,trivial⟩ (λ_ _=>rfl) (by rw[hΓ];rfl)) (I7 (st':=⟨[OT,(5,(AV.list 4 Ee default x8 (.own 15))),(8,(eI x17 34)),(11,(.ptr 11 0))],[(4,.row 64 ee),(11,.row 62 [(Z5 v9.End.Kind),(Z5 x19),(Wm x20 67)]),(15,.tok 4 67 x8.length),(34,.tok 6 70 x17.length),(Wt 67 x20.length),(Z2 v1 v11 9100002),(KK 9100002 (AK v34))],[]⟩) (by kernel_rfl))) (Ak q [4] [4,15,34,67,30000,9100002] (tS h (Dm OA)))))))))))))
end
end Go.Proofs.YtfhggcbcamamdaaGreat
