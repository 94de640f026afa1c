/-
  The machine, the program's functions and the laws' arithmetic: part 3 of 6.
-/
import Derived.Test.YtaeaenoaomdimaaGreatPk2
import Derived.BigCall
import Derived.Lib.RowBridge
import Derived.Shelf.Slices.Clone
import Derived.Shelf.Slices.CompactI
import Derived.Shelf.Slices.In.SortNone
import Derived.Shelf.Sort.Plain
import Derived.Sort.OwnSortedInts
import Derived.Test.YtaeaenoaomdimaaGreatProg
set_option linter.unusedSectionVars false
set_option linter.unusedVariables false
set_option linter.unusedSimpArgs false
namespace Go.Proofs.YtaeaenoaomdimaaGreat
noncomputable section
open Go Go.RowKit
inductive sK where
 | nx (y:Code)
 | bl (id:Nat)
 | ag (c:Code) (n:Nat)
inductive O2 where
 | run (c:Code) (fs:List sK)
 | out (e:Exit) (fs:List sK)
def sF(P:Program)(Γ:Il)(K:Exit->St->Prop):List sK->Exit->St->Prop
 | []=>K
 | .nx y::fs=>wQ P Γ y (sF P Γ K fs)
 | .bl id::fs=>KP id (sF P Γ K fs)
 | .ag c n::fs=>λe st=>(e = .normal/\QH P Γ c (sF P Γ K fs) n st)\/(e≠.normal/\sF P Γ K fs e st)
def GG(P:Program)(Γ:Il)(K:Exit->St->Prop):O2->St->Prop
 | .run c fs,st=>AS P Γ c (sF P Γ K fs) st
 | .out e fs,st=>sF P Γ K fs e st
def CG:Code->Nat->Nat
 | .exit i,k=>bif Nat.beq i k then 1 else 0
 | .seq a b,k=>Nat.min 2 (CG a k+CG b k)
 | .cond _ a b,k=>Nat.min 2 (CG a k+CG b k)
 | .loop c,k=>Nat.min 1 (CG c k)
 | .scope c,k=>Nat.min 1 (CG c k)
 | .block _ c,k=>CG c k
 | _,_=>0
def Uv:Code->Nat
 | .region _ _ _=>1
 | .skip=>1
 | .label _=>1
 | .seq a b=>bif Nat.beq (Uv a) 0 then 0 else Uv b
 | .cond _ a b=>Nat.min 2 (Uv a+Uv b)
 | .block i c=>Nat.min 2 (Uv c+CG c i)
 | .scope c=>Nat.min 2 (Uv c)
 | _=>0
def pP(a:Code):Bool:=match a with | .region _ _ _=>false|a=>Nat.ble 2 (Uv a)
def TD:Nat->Code ⊕ Exit->List sK->O2
 | 0,.inl c,fs=>.run c fs
 | 0,.inr e,fs=>.out e fs
 | n+1,.inl c,fs=>
  match c with
  | .skip=>TD n (.inr .normal) fs
  | .label _=>TD n (.inr .normal) fs
  | .seq a b=>bif pP a then .run (.seq a b) fs else TD n (.inl a) (.nx b::fs)
  | .block id a=>TD n (.inl a) (.bl id::fs)
  | .exit id=>TD n (.inr (.exit id)) fs
  | .goto l=>TD n (.inr (.goto l)) fs
  | .ret=>TD n (.inr .ret) fs
  | c=>.run c fs
 | n+1,.inr e,fs=>
  match fs with
  | []=>.out e []
  | .nx y::fs=>(match e with | .normal=>TD n (.inl y) fs|e=>TD n (.inr e) fs)
  | .bl id::fs=>(match e with | .exit i=>bif Nat.beq i id then TD n (.inr .normal) fs else TD n (.inr (.exit i)) fs|e=>TD n (.inr e) fs)
  | .ag c m::fs=>(match e with | .normal=>(match m with|0=>.out .normal (.ag c 0::fs)|m+1=>TD n (.inl c) (.ag c m::fs))|e=>TD n (.inr e) fs)
section
variable {P:Program} {Γ:Il} {K:Exit->St->Prop}
theorem Ce:∀(n:Nat) (x:Code ⊕ Exit) (fs:List sK) (st:St),GG P Γ K (TD n x fs) st->(match x with | .inl c=>AS P Γ c (sF P Γ K fs) st | .inr e=>sF P Γ K fs e st)
 | 0,.inl c,fs,st,h=>h
 | 0,.inr e,fs,st,h=>h
 | n+1,.inl c,fs,st,h=>by
  cases c with
  | skip=>exact oY (Ce n _ fs st h)
  | label l=>exact ll (Ce n _ fs st h)
  | seq a b=>
   cases hj:pP a with
   | true=>simp only[TD,hj]at h;exact h
   | false=>simp only[TD,hj]at h;exact j7 (Ce n (.inl a) _ st h)
  | block id a=>exact lk (Ce n (.inl a) _ st h)
  | exit id=>exact oU (Ce n _ fs st h)
  | goto l=>exact oV (Ce n _ fs st h)
  | ret=>exact tj (Ce n (.inr .ret) fs st h)
  | _=>exact h
 | n+1,.inr e,[],st,h=>h
 | n+1,.inr e,.nx y::fs,st,h=>by
  cases e with
  | normal=>exact Ce n (.inl y) fs st h
  | exit i=>exact Ce n _ fs st h
  | goto l=>exact Ce n _ fs st h
  | ret=>exact Ce n (.inr .ret) fs st h
  | panic c=>exact Ce n _ fs st h
  | outgrown=>exact Ce n _ fs st h
 | n+1,.inr e,.bl id::fs,st,h=>by
  cases e with
  | normal=>exact Ce n _ fs st h
  | exit i=>
   cases hb:Nat.beq i id with
   | true=>
    obtain rfl:=Df hb;simp only[TD,hb]at h;exact g8 (Ce n _ fs st h)
   | false=>
    simp only[TD,hb]at h;exact g7 hb (Ce n _ fs st h)
  | goto l=>exact Ce n _ fs st h
  | ret=>exact Ce n (.inr .ret) fs st h
  | panic c=>exact Ce n _ fs st h
  | outgrown=>exact Ce n _ fs st h
 | n+1,.inr e,.ag c m::fs,st,h=>by
  cases e with
  | normal=>
   cases m with
   | zero=>exact h
   | succ m=>exact .inl ⟨rfl,Ce n (.inl c) _ st h⟩
  | exit i=>exact .inr ⟨(by intro hh;cases hh),Ce n _ fs st h⟩
  | goto l=>exact .inr ⟨(by intro hh;cases hh),Ce n _ fs st h⟩
  | ret=>exact .inr ⟨(by intro hh;cases hh),Ce n (.inr .ret) fs st h⟩
  | panic ch=>exact .inr ⟨(by intro hh;cases hh),Ce n _ fs st h⟩
  | outgrown=>exact .inr ⟨(by intro hh;cases hh),Ce n _ fs st h⟩
theorem Lu{n:Nat}{c:Code}{fs:List sK}{st:St}(h:GG P Γ K (TD n (.inl c) fs) st):AS P Γ c (sF P Γ K fs) st:=Ce n _ fs st h
theorem W4{n:Nat}{e:Exit}{fs:List sK}{st:St}(h:GG P Γ K (TD n (.inr e) fs) st):sF P Γ K fs e st:=Ce n _ fs st h
def wF(c:Code)(fs:List sK):O2:=TD 400 (.inl c) fs
def exC(e:Exit)(fs:List sK):O2:=TD 400 (.inr e) fs
def ul:O2->O2
 | .run _ fs=>exC .normal fs
 | x=>x
def u1:O2->Option (List Oper×Bool)
 | .run (.region _ ops draw) _=>some (ops.toList,draw)
 | _=>none
def sC(P:Program)(S:IG)(n:Nat)(cs:List (Nat×AV))(live names:List Nat)(x:O2)(st:St)(rs:List Qe):Option (St×List Prop×Bool):=
 match u1 x with
 | some (ops,draw)=>QK P S n cs live names ops draw st rs
 | none=>none
def um(P:Program)(S:IG)(n:Nat)(cs:List (Nat×AV))(live names:List Nat)(x:O2)(st:St)(rs:List Qe):St:=
 match sC P S n cs live names x st rs with
 | some r=>r.1
 | none=>st
def sH(r:Option (St×List Prop×Bool)):Option (Prop×Bool):=
 match r with
 | some r=>some (dp r.2.1,r.2.2)
 | none=>none
theorem gR{x:O2}{st:St}{n:Nat}{H:List (Nat×Own)}(q:RgQ P Γ n H)(live names:List Nat)(cs:List (Nat×AV))(rs:List Qe){O:Prop}(hO:O)
  (k:GG P Γ K (ul x) (um P (Spec P) n cs live names x st rs))
  (h:sH (sC P (Spec P) n cs live names x st rs)=some (O,true):=by kernel_rfl) (hh:(H.all λx=>B3 x.1 names)=true:=by kernel_rfl):GG P Γ K x st:=by
 unfold sC at h;unfold um sC at k
 cases x with
 | out e fs=>simp[u1,sH]at h
 | run c fs=>
  cases c with
  | region id ops draw=>
   simp only[u1]at h k
   cases hr:QK P _ n cs _ _ _ _ st rs with
   | none=>rw[hr]at h;simp[sH]at h
   | some r=>
    obtain⟨st',obs,d⟩:=r;rw[hr]at h k;obtain⟨rfl,rfl⟩:=h;have:=gy (id:=id)  q.hn q.mix (q.hand hh) hr hO (W4 k);exact(by simpa using this:AS P Γ _ _ st)
  | _=>simp[u1,sH]at h
theorem Ae{x:O2}{st:St}{n:Nat}{H:List (Nat×Own)}(q:RgQ P Γ n H)(live names:List Nat)
  (k:GG P Γ K (ul x) (um P (Spec P) n [] live names x st []))
  (h:sH (sC P (Spec P) n [] live names x st [])=some (True,true):=by kernel_rfl) (hh:(H.all λx=>B3 x.1 names)=true:=by kernel_rfl):GG P Γ K x st:=gR q _ _ [] [] trivial k h hh
def wH:O2->Bool | .run _ _=>true|_=>false
theorem M4{x:O2}{st st':St}(h:Le Γ st st')
  (k:GG P Γ K x st')
  (hx:wH x=true:=by kernel_rfl):GG P Γ K x st:=by
 cases x with
 | run c fs=>exact gx h k
 | out e fs=>cases hx
theorem Ox{x:O2}{st:St}(st':St)
  (k:GG P Γ K x st')
  (h:st=st':=by kernel_rfl):GG P Γ K x st:=h▸k
def o8(x:O2)(st:St):AV:=match x with | .run (.cond c _ _) _=>dz st.get c|_=>.any
def brC(b:Bool):O2->O2
 | .run (.cond _ c d) fs=>wF (bif b then c else d) fs
 | x=>x
theorem gC{x:O2}{st:St}{R:Type}{b:Bool}{m1 m2:Option R}{r:R}(h:(bif b then m1 else m2)=some r)
  (kt:m1=some r->GG P Γ K (brC true x) st) (kf:m2=some r->GG P Γ K (brC false x) st)
  (hv:o8 x st = .bool b:=by kernel_rfl):GG P Γ K x st:=by
 cases x with
 | out e fs=>cases hv
 | run c fs=>
  cases c with
  | cond c y z=>
   refine dZ b hv (λhb=>Lu  (kt ?_)) (λhb=>Lu  (kf ?_))
   ·subst hb;exact h
   ·subst hb;exact h
  | _=>cases hv
theorem CJ{x:O2}{st:St}(b:Bool)
  (k:GG P Γ K (brC b x) st)
  (hv:o8 x st = .bool b:=by kernel_rfl):GG P Γ K x st:=by
 cases x with
 | out e fs=>cases hv
 | run c fs=>
  cases c with
  | cond c y z=>
   refine dZ b hv (λhb=>Lu (n:=400) ?_) (λhb=>Lu (n:=400) ?_)
   ·subst hb;exact k
   ·subst hb;exact k
  | _=>cases hv
theorem Aaj{x:O2}{st:St}(pos:Bool)(n:Nat)
  (kt:(pos=true->n=0)->GG P Γ K (brC true x) st) (kf:(pos=false->n=0)->GG P Γ K (brC false x) st)
  (hv:o8 x st = .nilq pos n:=by kernel_rfl):GG P Γ K x st:=by
 cases x with
 | out e fs=>cases hv
 | run c fs=>
  cases c with
  | cond c y z=>exact oX pos n hv (λhb=>Lu  (kt hb)) (λhb=>Lu  (kf hb))
  | _=>cases hv
theorem gB{R:Type}{c:Bool}{m1 m2:Option R}{r:R}{G:Prop}(h:(bif c then m1 else m2)=some r)(kt:c=true->m1=some r->G)(kf:c=false->m2=some r->G):G:=by
 grind
theorem sE(F:Bool->Prop){c b:Bool}(hs:c=b)(h:F c):F b:=hs▸h
theorem lt1{P:Nat->Prop}(h0:P 0)(i:Nat)(h:i<1):P i:=by
 grind
theorem rk(o:Own):some o=some o:=rfl
theorem Cp{k:IntKind}{a b:Int}(h:decide (a=b)=true):AVle (.int k a) (.int k b):=by rw[MP h];exact .refl _
theorem Xu{a b:Bool}(h:a=b):AVle (.bool a) (.bool b):=by rw[h];exact .refl _
theorem QQ{p:Prop}(h:false=true):p:=Bool.noConfusion h
theorem gNt{p:Prop}(h:true=false):p:=Bool.noConfusion h
theorem gK{x:O2}{st:St}{e:Exit}(h:K e st)(hx:x = .out e []:=by kernel_rfl):GG P Γ K x st:=by subst hx;exact h
def aG(Γ:Il)(e0:Exit)(og:St):Exit->St->Prop:=λe st=>e=e0/\Le Γ st og
def aR(K:Exit->St->Prop):Exit->St->Prop:=λe st=>e = .ret/\K e st
theorem Bd{e0:Exit}{og st:St}(h:Le Γ st og):aG Γ e0 og e0 st:=⟨rfl,h⟩
theorem Lj{st:St}(h:K .ret st):aR K .ret st:=⟨rfl,h⟩
def isN:Exit->Bool | .normal=>true|_=>false
theorem gN{S X:Type}{x:O2}{st:St}{H:S->St}{KX:X->Exit->St->Prop}{s':S}(h:Le Γ st (H s'))(hx:x = .out .normal []:=by kernel_rfl):GG P Γ (HM Γ H KX (.next s')) x st:=by
 subst hx;exact⟨rfl,h⟩
theorem gO{S X:Type}{x:O2}{st:St}{H:S->St}{KX:X->Exit->St->Prop}{y:X}{e:Exit}(h:KX y e st)(hx:x = .out e []:=by kernel_rfl)(hn:isN e=false:=by kernel_rfl):GG P Γ (HM Γ H KX (.done y)) x st:=by
 subst hx;exact⟨(by rintro rfl;cases hn),h⟩
def fK(P:Program)(Γ:Il)(rs:List ResultVar)(H:List (Nat×Own))(res:AV)(H':List (Nat×Own)):Exit->St->Prop:=clK Γ (Aa8 P rs H res H')
theorem Ht{rs:List ResultVar}{H H':List (Nat×Own)}{res:AV}{st st':St}{e:Exit}(ρ:List (Nat×Nat))(hl:Le Γ st st')(hr:kp P rs ρ H st'=some (res,H'):=by kernel_rfl)
  (he:(match e with | .ret=>true | .normal=>true|_=>false)=true:=by kernel_rfl):fK P Γ rs H res H' e st:=by
 refine⟨st',hl,?_,ρ,hr⟩
 cases e with
 | ret=>exact .inl rfl
 | normal=>exact .inr rfl
 | _=>cases he
theorem Bi{rs:List ResultVar}{H H':List (Nat×Own)}{res:AV}{x:O2}{st:St}(ρ:List (Nat×Nat))(hr:kp P rs ρ H st=some (res,H'):=by kernel_rfl)
  (hx:x = .out .ret []:=by kernel_rfl):GG P Γ (fK P Γ rs H res H') x st:=gK  (Ht ρ (Le.refl _ _) hr) hx
def bY(fn:Func):Code:=match fn.body with|some c=>c|none=>.skip
theorem MA {f : FuncId} {fn : Func} {args : List AV} {H H' : List (Nat × Own)} {res : AV} (hm : P.follows .mixedOrders = true) (hf : P.funcs[f]? = some fn)
    (k : ∀ Γ : Il, RgQ P Γ fn.ntmps H → GG P Γ (fK P Γ fn.results.toList H res H') (wF (bY fn) []) (KU args H))
    (hb : fn.body.isSome = true := by kernel_rfl) (hname : (fn.name == "runtime.NumGoroutine") = false := by kernel_rfl) (hlen : Nat.ble args.length fn.ntmps = true := by kernel_rfl) (hpl : TV H = true := by kernel_rfl) : Spec P f args H res H' := by
  obtain ⟨c, hc⟩ := zzL72.1 hb
  have e : bY fn = c := by unfold bY; rw [hc]
  refine fY hf hc hname hlen (fun Γ hn hΓ => ?_) hpl; have := k Γ ⟨hn, hm, hΓ⟩; rw [e] at this; exact xW (Lu this)
theorem iM{st st':St}(h:st=st'):Le Γ st st':=h▸Le.refl Γ st
def bi:O2->Bool | .run (.loop _) _=>true|_=>false
def oh:O2->O2
 | .run (.loop c) _=>wF c []
 | x=>x
def u3(e:Exit):O2->O2
 | .run _ fs=>exC e fs
 | x=>x
def Aa4{α:Type}(k:Nat)(x:α):List (Nat×α)->List (Nat×α)
 | []=>[(k,x)]
 | (k',y)::l=>bif Nat.beq k k' then(k,x)::l else bif Nat.blt k k' then(k,x)::(k',y)::l else(k',y)::Aa4 k x l
def u9{α:Type}:List (Nat×α)->List (Nat×α)->List (Nat×α)
 | [],l=>l
 | (k,x)::r,l=>u9 r (Aa4 k x l)
def Cs(st:St)(ts:List (Nat×AV))(os:List (Nat×Own))(fs:List (Nat×nC):=[]):St:=⟨u9 ts st.tmps,u9 os st.own,u9 fs st.fam⟩
def Oz(live names:List Nat)(st:St)(ts:List (Nat×AV))(os:List (Nat×Own))(fs:List (Nat×nC):=[]):St:=Hq live names (Cs st ts os fs)
theorem gL{S X:Type}{x:O2}{st:St}{n:Nat}{Hf:List (Nat×Own)}(q:RgQ P Γ n Hf){f:S->Option (LR S X)}{s0:S}{y:X}(hx:Ac f s0=some y)(live names:List Nat)(H:St->S->St)(KX:St->X->Exit->St->Prop)
  (kb:∀ s y,f s=some y->GG P Γ (HM Γ (H (Hq live names st)) (KX (Hq live names st)) y) (oh x) (H (Hq live names st) s)) (ko:∀ e st',KX (Hq live names st) y e st'->GG P Γ K (u3 e x) st')
  (h0:Hq live names st=H (Hq live names st) s0:=by kernel_rfl) (hl:bi x=true:=by kernel_rfl) (hh:(Hf.all λx=>B3 x.1 names)=true:=by kernel_rfl):GG P Γ K x st:=by
 cases x with
 | out e fs=>cases hl
 | run c fs=>
  cases c with
  | loop c=>
   refine gx  ?_ (db _ f _ (λs y hy=>Lu (kb s y hy)) hx λe st' hk=>W4 (ko e st' hk));rw[<- h0];exact Bk _ _ q rfl hh
  | _=>cases hl
theorem gL0{S X:Type}{x:O2}{st:St}{f:S->Option (LR S X)}{s0:S}{y:X}(hx:Ac f s0=some y)(H:St->S->St)(KX:St->X->Exit->St->Prop)
  (kb:∀ s y,f s=some y->GG P Γ (HM Γ (H st) (KX st) y) (oh x) (H st s)) (ko:∀ e st',KX st y e st'->GG P Γ K (u3 e x) st')
  (h0:st=H st s0:=by kernel_rfl) (hl:bi x=true:=by kernel_rfl):GG P Γ K x st:=by
 cases x with
 | out e fs=>cases hl
 | run c fs=>
  cases c with
  | loop c=>exact gx (iM h0) (db _ f _ (λs y hy=>Lu (kb s y hy)) hx λe st' hk=>W4 (ko e st' hk))
  | _=>cases hl
theorem gA{x:O2}{f:Exit->O2->O2}{e0:Exit}{og:St}
  (k:GG P Γ K (f e0 x) og)
  (hr:wH (f e0 x)=true:=by kernel_rfl):∀ e st',aG Γ e0 og e st'->GG P Γ K (f e x) st':=by
 rintro e st' ⟨rfl,hl⟩;exact M4 hl k hr
theorem nJ{x:O2}{f:Exit->O2->O2}{e0:Exit}{og:St}(k:∀ st',Le Γ st' og->GG P Γ K (f e0 x) st'):∀ e st',aG Γ e0 og e st'->GG P Γ K (f e x) st':=by
 rintro e st' ⟨rfl,hl⟩;exact k st' hl
theorem Pz{x:O2}{f:Exit->O2->O2}{K':Exit->St->Prop}(k:∀ st',K' .ret st'->GG P Γ K (f .ret x) st'):∀ e st',aR K' e st'->GG P Γ K (f e x) st':=by
 rintro e st' ⟨rfl,hl⟩;exact k st' hl
theorem gU{x:O2}{st:St}(n:Nat)
  (k:GG P Γ K (match x with | .run (.loop c) fs=>wF c (.ag c n::fs)|x=>x) st)
  (hl:bi x=true:=by kernel_rfl):GG P Γ K x st:=by
 cases x with
 | out e fs=>cases hl
 | run c fs=>
  cases c with
  | loop c=>exact gz (n+1) (Lu k)
  | _=>cases hl
def Aan:O2->Bool | .run (.seq _ _) _=>true|_=>false
def Aak:O2->O2
 | .run (.seq a _) _=>wF a []
 | x=>x
def Aa7(e:Exit):O2->O2
 | .run (.seq _ b) fs=>exC e (.nx b::fs)
 | x=>x
theorem gJ{X:Type}{x:O2}{st:St}{m:Option X}{y:X}(hx:m=some y)(KX:X->Exit->St->Prop)
  (kb:∀ y,m=some y->GG P Γ (KX y) (Aak x) st) (ko:∀ e st',KX y e st'->GG P Γ K (Aa7 e x) st')
  (hs:Aan x=true:=by kernel_rfl):GG P Γ K x st:=by
 cases x with
 | out e fs=>cases hs
 | run c fs=>
  cases c with
  | seq a b=>exact j7 (da KX hx (λy hy=>Lu (kb y hy)) λe st' hk=>W4 (ko e st' hk))
  | _=>cases hs
def Aam:O2->Bool | .run (.region _ _ _) _=>true|_=>false
def xT:O2->O2
 | .run c _=>.run c []
 | x=>x
def Aaa(e:Exit):O2->O2
 | .run _ fs=>exC e fs
 | x=>x
theorem gJR{X:Type}{x:O2}{st:St}{m:Option X}{y:X}(hx:m=some y)(KX:X->Exit->St->Prop)
  (kb:∀ y,m=some y->GG P Γ (KX y) (xT x) st) (ko:∀ e st',KX y e st'->GG P Γ K (Aaa e x) st')
  (hs:Aam x=true:=by kernel_rfl):GG P Γ K x st:=by
 cases x with
 | out e fs=>cases hs
 | run c fs=>exact da KX hx (λy hy=>kb y hy) λe st' hk=>W4 (ko e st' hk)
def uS:O2->Bool | .run (.scope _) _=>true|_=>false
def scB:O2->Code | .run (.scope c) _=>c|_=>.skip
def Aao(c:Code)(l:Nat):O2:=wF ((findLabel c l).getD .skip) []
theorem gS{S X:Type}{x:O2}{st:St}{f0:Option (LR S X)}{f:S->Option (LR S X)}{y:X}(hx:N6 f0 f=some y)(lab:S->Nat)(H:S->St)(KX:X->Exit->St->Prop)
  (k0:∀ y,f0=some y->GG P Γ (SO Γ (scB x) lab H KX y) (wF (scB x) []) st) (kb:∀ s y,f s=some y->GG P Γ (SO Γ (scB x) lab H KX y) (Aao (scB x) (lab s)) (H s)) (ko:∀ e st',KX y e st'->GG P Γ K (u3 e x) st')
  (hs:uS x=true:=by kernel_rfl):GG P Γ K x st:=by
 cases x with
 | out e fs=>cases hs
 | run c fs=>
  cases c with
  | scope c=>
   refine lm lab H f0 f KX (λy hy=>Lu (k0 y hy)) (λs y rest hf hy=>?_) hx λe st' hk=>W4 (ko e st' hk);have:=kb s y hy;unfold Aao scB at this;rw[hf]at this;exact Lu this
  | _=>cases hs
theorem mG{S X:Type}{x:O2}{st:St}{c:Code}{lab:S->Nat}{H:S->St}{KX:X->Exit->St->Prop}{s':S}(h:Le Γ st (H s'))(hx:x = .out (.goto (lab s')) []:=by kernel_rfl)(hf:(findLabel c (lab s')).isSome=true:=by kernel_rfl) :
  GG P Γ (SO Γ c lab H KX (.next s')) x st:=by
 subst hx;exact⟨rfl,hf,h⟩
theorem WS{S X:Type}{x:O2}{st:St}{c:Code}{lab:S->Nat}{H:S->St}{KX:X->Exit->St->Prop}{y:X}{e:Exit}(h:KX y e st)(hx:x = .out e []:=by kernel_rfl)
  (hf:(match e with | .goto l=>(findLabel c l).isNone|_=>true)=true:=by kernel_rfl):GG P Γ (SO Γ c lab H KX (.done y)) x st:=by
 subst hx;refine⟨?_,h⟩;rintro l rfl
 simpa using hf
theorem Sq{α:Type}{st:St}(U:α->St->St){a b:α}(h:a=b)(h1:st=U a st:=by kernel_rfl):Le Γ st (U b st):=by subst h;exact iM h1
theorem leB{st:St}(F F':Bool->St->St)(g:Bool)(h1:st=F g st:=by kernel_rfl)(ht:F true st=F' true st:=by kernel_rfl)(hf:F false st=F' false st:=by kernel_rfl):Le Γ st (F' g st):=by
 refine iM (h1.trans ?_)
 cases g<;>assumption
def Own.withF(g:Nat->List AV):Own->Own
 | .arr sz e n _=>.arr sz e n g
 | o=>o
def vv(st:St)(nm:Nat):Option (Nat×(Nat->List AV)):=match Ah st.own nm with|some (.arr _ _ n f)=>some (n,f)|_=>none
def Aba(nm:Nat)(g:Nat->List AV)(st:St):St:=⟨st.tmps,(match Ah st.own nm with|some o=>Ez st.own nm (o.withF g)|none=>st.own),st.fam⟩
theorem TR{nm sz n:Nat}{e:TypeId}{f g:Nat->List AV}(hp:∀ k,k<n->AVleL (f k) (g k)):∀{l:List (Nat×Own)},Ah l nm=some (.arr sz e n f)->OwnsLe l (Ez l nm (.arr sz e n g))
 | [],h=>by cases h
 | (k,o)::l,h=>by
  simp only[Ah]at h;simp only[Ez]
  cases hb:Nat.beq k nm with
  | true=>
   obtain rfl:=Df hb;rw[hb]at h;simp only[Af,As]at h;subst h;exact .arr hp (.refl _)
  | false=>
   rw[hb]at h;exact .same (TR hp h)
theorem Sp{st:St}(nm:Nat){n:Nat}{f g:Nat->List AV}(hp:∀ k,k<n->AVleL (f k) (g k))(h:vv st nm=some (n,f):=by kernel_rfl):Le Γ st (Aba nm g st):=by
 unfold vv at h;unfold Aba
 cases ho:Ah _ nm with
 | none=>rw[ho]at h;cases h
 | some o=>
  rw[ho]at h
  cases o with
  | arr sz e n' f'=>
   obtain⟨rfl,rfl⟩:=h;exact J8 (TmpsLe.refl _) (TR hp ho)
  | _=>cases h
def o5(st:St)(nm j:Nat):Option AV:=match Ah st.own nm with|some (.row _ cells)=>cells[j]? | _=>none
def Own.withC(j:Nat)(x:AV):Own->Own
 | .row e cells=>.row e (cells.set j x)
 | o=>o
def Aa9(nm j:Nat)(x:AV)(st:St):St:=⟨st.tmps,(match Ah st.own nm with|some o=>Ez st.own nm (o.withC j x)|none=>st.own),st.fam⟩
theorem kP{a b:AV}(h:AVle a b):∀{l:List AV} {j:Nat},l[j]?=some a->AVleL l (l.set j b)
 | [],j,h=>by simp at h
 | x::l,0,h'=>by
  simp only[List.getElem?_cons_zero,As]at h';subst h';exact .cons h (.refl _)
 | x::l,j+1,h'=>by
  exact .cons (.refl _) (kP h h')
theorem TS{nm:Nat}{e:TypeId}{x y:List AV}(hp:AVleL x y):∀{l:List (Nat×Own)},Ah l nm=some (.row e x)->OwnsLe l (Ez l nm (.row e y))
 | [],h=>by cases h
 | (k,o)::l,h=>by
  simp only[Ah]at h;simp only[Ez]
  cases hb:Nat.beq k nm with
  | true=>
   obtain rfl:=Df hb;rw[hb]at h;simp only[Af,As]at h;subst h;exact .row hp (.refl _)
  | false=>
   rw[hb]at h;exact .same (TS hp h)
theorem uU{st:St}(nm j:Nat){a b:AV}(hp:AVle a b)(h:o5 st nm j=some a:=by kernel_rfl):Le Γ st (Aa9 nm j b st):=by
 unfold o5 at h;unfold Aa9
 cases ho:Ah _ nm with
 | none=>rw[ho]at h;cases h
 | some o=>
  rw[ho]at h
  cases o with
  | row e cells=>exact J8 (TmpsLe.refl _) (TS (kP hp h) ho)
  | _=>cases h
theorem gI(g:Bool):g=true->g=true:=id
theorem L0(c:Bool):c=true->(c==true)=true:=gT
theorem Ld(c:Bool):c=false->(c==false)=true:=gF
theorem Ca{α:Type}(sz:Nat)(e:α->List AV)(d:α)(l:List α):AVle (.slice sz l.length (λi=>(l.map e).getD i []) .exact) (AV.list sz e d l .exact):=gw rfl λi h=>uf l i h
theorem Bh{α:Type}(sz:Nat)(e:α->List AV)(d:α):AVle (.slice 0 0 (λ_=>[]) .exact) (AV.list sz e d [] .exact):=He
theorem Kh{α:Type}(sz nm:Nat)(e:α->List AV)(d:α)(l m:List α):AVle (.slice sz (l.length+m.length) (O4 l.length (λi=>e (l.getD i d)) (λi=>e (m.getD i d))) (.own nm)) (AV.list sz e d (l++m) (.own nm)):=xV
theorem Jh{st st':St}(h:st=st':=by kernel_rfl):Le Γ st st':=h▸Le.refl Γ st
theorem ci{p q:Prop}(a:p)(b:q):p/\q:=⟨a,b⟩
theorem c1{p:Prop}(a:p):p/\True:=⟨a,trivial⟩
end
section
variable {P:Program} {Γ:Il} {K:Exit->St->Prop}
theorem tB{α β:Type}{m:Option α}{f:α->Option β}{r:β}{G:Prop}(h:m.bind f=some r)(k:∀ x,m=some x->f x=some r->G):G:=have⟨x,hx,h⟩:=bind_some h;k x hx h
theorem tC{β:Type}{c:Prop}[Decidable c]{m:Option β}{r:β}{G:Prop}(h:Aw c m=some r)(k:c->m=some r->G):G:=k (Uq h).1 (Uq h).2
@[elab_as_elim] theorem tS{α:Type}{a:α}{M:α->Prop}{b:α}(h:some a=some b)(k:M a):M b:=OI h▸k
theorem tV{x:O2}{st:St}{n:Nat}{H:List (Nat×Own)}(q:RgQ P Γ n H)(live names:List Nat){β:Type}{c:Prop}[Decidable c]{m:Option β}{r:β}(h:Aw c m=some r)
  (k:m=some r->GG P Γ K (ul x) (um P (Spec P) n [] live names x st []))
  (h1:sH (sC P (Spec P) n [] live names x st [])=some (c/\True,true):=by kernel_rfl) (hh:(H.all λx=>B3 x.1 names)=true:=by kernel_rfl):GG P Γ K x st:=gR q live names [] [] (c1 (Uq h).1) (k (Uq h).2) h1 hh
theorem tN{S X:Type}{x:O2}{st:St}{H:S->St}{KX:X->Exit->St->Prop}{s':S}{y:LR S X}(h:some (.next s')=some y)(h1:st=H s':=by kernel_rfl)(hx:x = .out .normal []:=by kernel_rfl):GG P Γ (HM Γ H KX y) x st:=OI h▸gN (Jh h1) hx
theorem tL{S X α:Type}{x:O2}{st:St}{n:Nat}{Hf:List (Nat×Own)}(q:RgQ P Γ n Hf){f:S->Option (LR S X)}{s0:S}{g:X->Option α}{r:α}(h:(Ac f s0).bind g=some r)(live names:List Nat)(H:St->S->St)(KX:St->X->Exit->St->Prop)
  (kb:∀ s y,f s=some y->GG P Γ (HM Γ (H (Hq live names st)) (KX (Hq live names st)) y) (oh x) (H (Hq live names st) s)) (ko:∀ y,g y=some r->∀ e st',KX (Hq live names st) y e st'->GG P Γ K (u3 e x) st')
  (h0:Hq live names st=H (Hq live names st) s0:=by kernel_rfl) (hl:bi x=true:=by kernel_rfl) (hh:(Hf.all λx=>B3 x.1 names)=true:=by kernel_rfl):GG P Γ K x st:=tB h λy hy h=>gL q hy live names H KX kb (ko y h) h0 hl hh
theorem tU{x:O2}{st:St}{n:Nat}{H:List (Nat×Own)}(q:RgQ P Γ n H)(live names:List Nat){O:Prop}(hO:O)
  (k:GG P Γ K (ul x) (um P (Spec P) n [] live names x st []))
  (h:sH (sC P (Spec P) n [] live names x st [])=some (O,true):=by kernel_rfl) (hh:(H.all λx=>B3 x.1 names)=true:=by kernel_rfl):GG P Γ K x st:=gR q live names [] [] hO k h hh
theorem tT{x:O2}{st:St}{n:Nat}{H:List (Nat×Own)}(q:RgQ P Γ n H)(live names:List Nat)(rs:List Qe){O:Prop}(hO:O)
  (k:GG P Γ K (ul x) (um P (Spec P) n [] live names x st rs))
  (h:sH (sC P (Spec P) n [] live names x st rs)=some (O,true):=by kernel_rfl) (hh:(H.all λx=>B3 x.1 names)=true:=by kernel_rfl):GG P Γ K x st:=gR q live names [] rs hO k h hh
theorem tW{x:O2}{st:St}{n:Nat}{H:List (Nat×Own)}(q:RgQ P Γ n H)(live names live2 names2:List Nat)
  (k:GG P Γ K (ul (ul x)) (um P (Spec P) n [] live2 names2 (ul x) (um P (Spec P) n [] live names x st []) []))
  (h:sH (sC P (Spec P) n [] live names x st [])=some (True,true):=by kernel_rfl) (hh:(H.all λx=>B3 x.1 names)=true:=by kernel_rfl)
  (h2:sH (sC P (Spec P) n [] live2 names2 (ul x) (um P (Spec P) n [] live names x st []) [])=some (True,true):=by kernel_rfl) (hh2:(H.all λx=>B3 x.1 names2)=true:=by kernel_rfl):GG P Γ K x st:=Ae q live names (Ae q live2 names2 k h2 hh2) h hh
end
def cjO:List Own->Prop->Prop
 | [],p=>p
 | o::l,p=>some o=some o/\cjO l p
theorem nL:∀(l:List Own) {p:Prop},p->cjO l p
 | [],_,h=>h
 | _::l,_,h=>⟨rfl,nL l h⟩
theorem Ul(l:List Own):cjO l True:=nL l trivial
theorem Lz{R:Prop}(g:Bool)(r:R):(g=true->g=true)/\((g=true->g=true)/\(R)):=⟨id,⟨id,r⟩⟩
theorem Za{R:Prop}(g:Bool)(r:R):(g=true->g=true)/\((g=true->g=true)/\((g=true->g=true)/\(R))):=⟨id,⟨id,⟨id,r⟩⟩⟩
theorem mF{R:Prop}(g:Bool)(r:R):(g=true->g=true)/\((g=true->g=true)/\((g=true->g=true)/\((g=true->g=true)/\(R)))):=⟨id,⟨id,⟨id,⟨id,r⟩⟩⟩⟩
theorem pI{R:Prop}(g:Bool)(r:R):(g=true->g=true)/\((g=true->g=true)/\((g=true->g=true)/\((g=true->g=true)/\((g=true->g=true)/\(R))))):=⟨id,⟨id,⟨id,⟨id,⟨id,r⟩⟩⟩⟩⟩
theorem gI6{R:Prop}(g:Bool)(r:R):(g=true->g=true)/\((g=true->g=true)/\((g=true->g=true)/\((g=true->g=true)/\((g=true->g=true)/\((g=true->g=true)/\(R)))))):=⟨id,⟨id,⟨id,⟨id,⟨id,⟨id,r⟩⟩⟩⟩⟩⟩
theorem gI7{R:Prop}(g:Bool)(r:R):(g=true->g=true)/\((g=true->g=true)/\((g=true->g=true)/\((g=true->g=true)/\((g=true->g=true)/\((g=true->g=true)/\((g=true->g=true)/\(R))))))):=⟨id,⟨id,⟨id,⟨id,⟨id,⟨id,⟨id,r⟩⟩⟩⟩⟩⟩⟩
theorem gI8{R:Prop}(g:Bool)(r:R):(g=true->g=true)/\((g=true->g=true)/\((g=true->g=true)/\((g=true->g=true)/\((g=true->g=true)/\((g=true->g=true)/\((g=true->g=true)/\((g=true->g=true)/\(R)))))))):=⟨id,⟨id,⟨id,⟨id,⟨id,⟨id,⟨id,⟨id,r⟩⟩⟩⟩⟩⟩⟩⟩
theorem gI9{R:Prop}(g:Bool)(r:R):(g=true->g=true)/\((g=true->g=true)/\((g=true->g=true)/\((g=true->g=true)/\((g=true->g=true)/\((g=true->g=true)/\((g=true->g=true)/\((g=true->g=true)/\((g=true->g=true)/\(R))))))))):=⟨id,⟨id,⟨id,⟨id,⟨id,⟨id,⟨id,⟨id,⟨id,r⟩⟩⟩⟩⟩⟩⟩⟩⟩
theorem SB{p0 p1 R:Prop}(a0:p0)(a1:p1)(r:R):p0/\p1/\R:=⟨a0,a1,r⟩
theorem c2{p0 p1:Prop}(a0:p0)(a1:p1):p0/\p1/\True:=⟨a0,a1,trivial⟩
theorem cu{p0 p1 p2 R:Prop}(a0:p0)(a1:p1)(a2:p2)(r:R):p0/\p1/\p2/\R:=⟨a0,a1,a2,r⟩
theorem c3{p0 p1 p2:Prop}(a0:p0)(a1:p1)(a2:p2):p0/\p1/\p2/\True:=⟨a0,a1,a2,trivial⟩
theorem SC{p0 p1 p2 p3 R:Prop}(a0:p0)(a1:p1)(a2:p2)(a3:p3)(r:R):p0/\p1/\p2/\p3/\R:=⟨a0,a1,a2,a3,r⟩
theorem c4{p0 p1 p2 p3:Prop}(a0:p0)(a1:p1)(a2:p2)(a3:p3):p0/\p1/\p2/\p3/\True:=⟨a0,a1,a2,a3,trivial⟩
theorem d5_{p0 p1 p2 p3 p4 R:Prop}(a0:p0)(a1:p1)(a2:p2)(a3:p3)(a4:p4)(r:R):p0/\p1/\p2/\p3/\p4/\R:=⟨a0,a1,a2,a3,a4,r⟩
theorem c5{p0 p1 p2 p3 p4:Prop}(a0:p0)(a1:p1)(a2:p2)(a3:p3)(a4:p4):p0/\p1/\p2/\p3/\p4/\True:=⟨a0,a1,a2,a3,a4,trivial⟩
theorem d6_{p0 p1 p2 p3 p4 p5 R:Prop}(a0:p0)(a1:p1)(a2:p2)(a3:p3)(a4:p4)(a5:p5)(r:R):p0/\p1/\p2/\p3/\p4/\p5/\R:=⟨a0,a1,a2,a3,a4,a5,r⟩
theorem c6{p0 p1 p2 p3 p4 p5:Prop}(a0:p0)(a1:p1)(a2:p2)(a3:p3)(a4:p4)(a5:p5):p0/\p1/\p2/\p3/\p4/\p5/\True:=⟨a0,a1,a2,a3,a4,a5,trivial⟩
theorem c7{p0 p1 p2 p3 p4 p5 p6:Prop}(a0:p0)(a1:p1)(a2:p2)(a3:p3)(a4:p4)(a5:p5)(a6:p6):p0/\p1/\p2/\p3/\p4/\p5/\p6/\True:=⟨a0,a1,a2,a3,a4,a5,a6,trivial⟩
theorem d8_{p0 p1 p2 p3 p4 p5 p6 p7 R:Prop}(a0:p0)(a1:p1)(a2:p2)(a3:p3)(a4:p4)(a5:p5)(a6:p6)(a7:p7)(r:R):p0/\p1/\p2/\p3/\p4/\p5/\p6/\p7/\R:=⟨a0,a1,a2,a3,a4,a5,a6,a7,r⟩
theorem c8{p0 p1 p2 p3 p4 p5 p6 p7:Prop}(a0:p0)(a1:p1)(a2:p2)(a3:p3)(a4:p4)(a5:p5)(a6:p6)(a7:p7):p0/\p1/\p2/\p3/\p4/\p5/\p6/\p7/\True:=⟨a0,a1,a2,a3,a4,a5,a6,a7,trivial⟩
theorem xk{p0 p1 p2 p3 p4 p5 p6 p7 p8 R:Prop}(a0:p0)(a1:p1)(a2:p2)(a3:p3)(a4:p4)(a5:p5)(a6:p6)(a7:p7)(a8:p8)(r:R):p0/\p1/\p2/\p3/\p4/\p5/\p6/\p7/\p8/\R:=⟨a0,a1,a2,a3,a4,a5,a6,a7,a8,r⟩
theorem c9{p0 p1 p2 p3 p4 p5 p6 p7 p8:Prop}(a0:p0)(a1:p1)(a2:p2)(a3:p3)(a4:p4)(a5:p5)(a6:p6)(a7:p7)(a8:p8):p0/\p1/\p2/\p3/\p4/\p5/\p6/\p7/\p8/\True:=⟨a0,a1,a2,a3,a4,a5,a6,a7,a8,trivial⟩
open Go.Shelf
def eE:Go.Shelf.Ren:=⟨fun|189=>156|125=>168|257=>167|128=>188|129=>189|294=>179|295=>180|296=>181|297=>182|298=>183|299=>184|216=>185|300=>186|301=>187|328=>194|329=>195|330=>196|331=>197|332=>198|215=>199|343=>200|n=>n,fun|28=>22|3=>3|46=>153|0=>0|51=>176|53=>37|4=>4|183=>194|182=>193|131=>197|5=>5|9=>9|218=>203|222=>207|228=>209|229=>97|n=>n,fun|n=>n⟩
theorem kO:Go.Proofs.Lays.n189 Tryz.prog eE:={
 mixed:=by kernel_rfl
 f125:=Tryz.func168.trans (Bx some (by kernel_rfl))
 f128:=Tryz.func188.trans (Bx some (by kernel_rfl))
 f129:=Tryz.func189.trans (Bx some (by kernel_rfl))
 f189:=Tryz.func156.trans (Bx some (by kernel_rfl))
 f215:=Tryz.func199.trans (Bx some (by kernel_rfl))
 f216:=Tryz.func185.trans (Bx some (by kernel_rfl))
 f257:=Tryz.func167.trans (Bx some (by kernel_rfl))
 f294:=Tryz.func179.trans (Bx some (by kernel_rfl))
 f295:=Tryz.func180.trans (Bx some (by kernel_rfl))
 f296:=Tryz.func181.trans (Bx some (by kernel_rfl))
 f297:=Tryz.func182.trans (Bx some (by kernel_rfl))
 f298:=Tryz.func183.trans (Bx some (by kernel_rfl))
 f299:=Tryz.func184.trans (Bx some (by kernel_rfl))
 f300:=Tryz.func186.trans (Bx some (by kernel_rfl))
 f301:=Tryz.func187.trans (Bx some (by kernel_rfl))
 f328:=Tryz.func194.trans (Bx some (by kernel_rfl))
 f329:=Tryz.func195.trans (Bx some (by kernel_rfl))
 f330:=Tryz.func196.trans (Bx some (by kernel_rfl))
 f331:=Tryz.func197.trans (Bx some (by kernel_rfl))
 f332:=Tryz.func198.trans (Bx some (by kernel_rfl))
 f343:=Tryz.func200.trans (Bx some (by kernel_rfl))
 t0:=Tryz.underlying0
 a0:=Tryz.isAgg0
 z0:=Tryz.sizeOf0
 v0:=Tryz.zeroValue0
 t3:=Tryz.underlying3
 a3:=Tryz.isAgg3
 z3:=Tryz.sizeOf3
 v3:=Tryz.zeroValue3
 t4:=Tryz.underlying4
 a4:=Tryz.isAgg4
 z4:=Tryz.sizeOf4
 v4:=Tryz.zeroValue4
 t5:=Tryz.underlying5
 a5:=Tryz.isAgg5
 z5:=Tryz.sizeOf5
 v5:=Tryz.zeroValue5
 t9:=Tryz.underlying9
 a9:=Tryz.isAgg9
 z9:=Tryz.sizeOf9
 v9:=Tryz.zeroValue9
 t28:=Tryz.underlying22
 a28:=Tryz.isAgg22
 z28:=Tryz.sizeOf22
 v28:=Tryz.zeroValue22
 t46:=Tryz.underlying153
 a46:=Tryz.isAgg153
 z46:=Tryz.sizeOf153
 v46:=Tryz.zeroValue153
 t51:=Tryz.underlying176
 a51:=Tryz.isAgg176
 z51:=Tryz.sizeOf176
 v51:=Tryz.zeroValue176
 t53:=Tryz.underlying37
 a53:=Tryz.isAgg37
 z53:=Tryz.sizeOf37
 v53:=Tryz.zeroValue37
 t131:=Tryz.underlying197
 a131:=Tryz.isAgg197
 z131:=Tryz.sizeOf197
 v131:=Tryz.zeroValue197
 t182:=Tryz.underlying193
 a182:=Tryz.isAgg193
 z182:=Tryz.sizeOf193
 v182:=Tryz.zeroValue193
 t183:=Tryz.underlying194
 a183:=Tryz.isAgg194
 z183:=Tryz.sizeOf194
 v183:=Tryz.zeroValue194
 t218:=Tryz.underlying203
 a218:=Tryz.isAgg203
 z218:=Tryz.sizeOf203
 v218:=Tryz.zeroValue203
 t222:=Tryz.underlying207
 a222:=Tryz.isAgg207
 z222:=Tryz.sizeOf207
 v222:=Tryz.zeroValue207
 t228:=Tryz.underlying209
 a228:=Tryz.isAgg209
 z228:=Tryz.sizeOf209
 v228:=Tryz.zeroValue209
 t229:=Tryz.underlying97
 a229:=Tryz.isAgg97
 z229:=Tryz.sizeOf97
 v229:=Tryz.zeroValue97 }
def XI:Go.Shelf.Ren:=⟨fun|15=>155|n=>n,fun|22=>22|3=>3|4=>4|n=>n,fun|n=>n⟩
theorem KV:Go.Proofs.Lays2.n15 Tryz.prog XI:={
 mixed:=by kernel_rfl
 f15:=Tryz.func155.trans (Bx some (by kernel_rfl))
 t3:=Tryz.underlying3
 a3:=Tryz.isAgg3
 z3:=Tryz.sizeOf3
 v3:=Tryz.zeroValue3
 t4:=Tryz.underlying4
 a4:=Tryz.isAgg4
 z4:=Tryz.sizeOf4
 v4:=Tryz.zeroValue4
 t22:=Tryz.underlying22
 a22:=Tryz.isAgg22
 z22:=Tryz.sizeOf22
 v22:=Tryz.zeroValue22
 i3:=by kernel_rfl }
def XJ:Go.Shelf.Ren:=⟨fun|20=>157|n=>n,fun|22=>22|3=>3|4=>4|0=>0|n=>n,fun|n=>n⟩
theorem ZH:Go.Proofs.Lays2.n20 Tryz.prog XJ:={
 mixed:=by kernel_rfl
 f20:=Tryz.func157.trans (Bx some (by kernel_rfl))
 t0:=Tryz.underlying0
 a0:=Tryz.isAgg0
 z0:=Tryz.sizeOf0
 v0:=Tryz.zeroValue0
 t3:=Tryz.underlying3
 a3:=Tryz.isAgg3
 z3:=Tryz.sizeOf3
 v3:=Tryz.zeroValue3
 t4:=Tryz.underlying4
 a4:=Tryz.isAgg4
 z4:=Tryz.sizeOf4
 v4:=Tryz.zeroValue4
 t22:=Tryz.underlying22
 a22:=Tryz.isAgg22
 z22:=Tryz.sizeOf22
 v22:=Tryz.zeroValue22
 i3:=by kernel_rfl }
open Go.Sort
section
variable {I:Nat->Nat->Prop} {θ:Nat->Option (Nat×Nat)} {w w':World}
theorem io(I:Nat->Nat->Prop)(θ:Nat->Option (Nat×Nat))(w:World):Lp I (Ah []) θ w:=
 ⟨(λ_ _ _ h=>by cases h),(λ_ _ _ _ h=>by cases h),(λ_ _ _ _ _ h=>(h rfl).elim),(λ_ _ _ _ _ h=>by cases h),(λ_ _ h=>by cases h),(λ_ _ _ h=>by cases h)⟩
theorem qP{own:Nat->Option Own}{zs:Array Value}{x:AV}(h:RepL I own θ w zs.toList [x]):∃ v,zs = #[v]/\Rep I own θ w v x:=by
 obtain⟨l⟩:=zs
 cases h with
 | cons h1 h2=>cases h2;exact⟨_,rfl,h1⟩
theorem FX(hb:Below w.heap.size w w')(hval:∀ b o,I b o->∃ u,w.cell? ⟨b,o,none⟩=some u){N:Nat->Nat->Prop}(hN:∀ b o,N b o->w.heap.size<=b/\∃ u,w'.cell? ⟨b,o,none⟩=some u) :
  Chg (Ah []) θ I w (Ah []) θ (λb o=>I b o\/N b o) w':=
 have hcell:∀ b o,I b o->w'.cell? ⟨b,o,none⟩=w.cell? ⟨b,o,none⟩:=λb o hi=>by
  obtain⟨u,hu⟩:=hval b o hi;exact OS (a:=⟨b,o,none⟩) (hb.block b (Sn hu))
 {imm:=λ_ _ h=>.inl h,cell:=hcell,le:=λ_ _ h=>(by cases h),rel:=io _ _ _,
  valid:=λb o hi=>by
   rcases hi with hi|hi
   ·obtain⟨u,hu⟩:=hval b o hi;exact⟨u,(hcell b o hi).trans hu⟩
   ·exact(hN b o hi).2,
  os:=hb.os,tape:=hb.tape,output:=hb.output,drawn:=λh=>h.elim,grow:=hb.size,frame:=λb hlt _=>hb.block b hlt,new:=λ_ _ _ h=>(h rfl).elim,
  immNew:=λb o hi=>by
   rcases hi with hi|hi
   ·exact .inl hi
   ·exact .inr (.inl (hN b o hi).1) }
end
theorem IM{w W:World}{g n:Nat}{os:Array Obj}{d:Array Int}(hb:Below w.heap.size w W)(hg:w.heap.size<=g):Below w.heap.size w (grow (putRow (Value.int .i64) (Sort.ahead W n) g 0 d) os):=by
 have k:=grownBy_sortedI (w:=W) (g:=g) (n:=n) (os:=os) d;refine hb.trans ⟨k.os,k.tape,k.output,k.size,λb hlt=>k.block b (Nat.lt_of_lt_of_le hlt hb.size) (λe=>?_)⟩;have:=OI e;omega
def bO(w W:World)(g cap n:Nat)(zs:List Int):Prop:=
 Below w.heap.size w W/\w.heap.size<=g/\∃ cur,W.heap[g]?=some (.cells cur 3 (0,0))/\n<=cap/\cap<=maxLen/\cur.size=cap/\cur.toList.take zs.length=zs.map (Value.int .i64)/\zs.length=n
theorem kg{w W:World}{v:Value}{n:Nat}{zs:List Int}(h:W.ownsRow w.heap.size 3 1 v n (zs.map (Value.int .i64)))(hne:v≠.slice none 0 0)(hb:Below w.heap.size w W):∃ g cap,v = .slice (some ⟨g,0,none⟩) n cap/\bO w W g cap n zs:=by
 have hl:zs.length=n:=by have:=h.1;simpa using this
 rcases h.2 with⟨rfl,_⟩|⟨g,cap,cur,rfl,hg,hcur,hcap,hmax,hsz,ht⟩
 ·exact(hne rfl).elim
 ·rw[Y0]at hsz ht;exact⟨g,cap,rfl,hb,hg,cur,hcur,hcap,hmax,hsz,by rw[hl];exact ht,hl⟩
theorem ot(ad:Addr)(c:Nat)(w:World):Calls Tryz.prog 155 #[.slice (some ad) 0 c] w λe W=>∃ g cap,e = .returned (.slice (some ⟨g,0,none⟩) 0 cap)/\bO w W g cap 0 []:=
 (Any.slices_Clone_int_zero KV ad c w).mono λe W ⟨v,he,hown,hne,hb⟩=>by
  obtain⟨g,cap,rfl,h⟩:=kg (zs:=[]) hown hne hb;exact⟨g,cap,he,h⟩
theorem tx(b off n c:Nat)(zs:List Int)(w:World)(hz:zs.length=n)(hbig:n<=17592186044416)(hc:∀ j,j<n->w.cell? ⟨b,off+j,none⟩=some (.int .i64 (zs.getD j 0))) :
  Calls Tryz.prog 155 #[.slice (some ⟨b,off,none⟩) n c] w λe W=>∃ g cap,e = .returned (.slice (some ⟨g,0,none⟩) n cap)/\bO w W g cap n zs:=
 (Any.slices_Clone_int KV b off n c zs w (by omega) (by omega) (λj hj=>hc j (by omega))).mono λe W ⟨v,he,hown,hne,hb⟩=>by
  rw[show zs.take n=zs by rw[<- hz];exact OU ..]at hown;obtain⟨g,cap,rfl,h⟩:=kg hown hne hb;exact⟨g,cap,he,h⟩
theorem xg{w W:World}{g cap n:Nat}{zs:List Int}(h:bO w W g cap n zs)(hbig:n<=17592186044416):Calls Tryz.prog 156 #[.slice (some ⟨g,0,none⟩) n cap] W λe W2=>e = .returned (.tuple #[])/\bO w W2 g cap n (zs.mergeSort λx y=>decide (x<=y)):=by
 obtain⟨hb,hg,cur,hcur,hcap,hmax,hsz,ht,rfl⟩:=h;refine(Any.slices_Sort_int kO g 0 cap zs W (holds_of_blockI hcur ht) (JA hcur) (by omega)).mono λe W2 ⟨he,q,os,hW⟩=>⟨he,?_⟩;subst hW;have hl:(zs.mergeSort λx y=>decide (x<=y)).length=zs.length:=List.length_mergeSort ..;have b2:=IM (n:=q) (os:=os) (d:=(zs.mergeSort λx y=>decide (x<=y)).toArray) hb hg;exact⟨b2,hg,_,heap_sortedI _ hcur,hcap,hmax,by simp[putCells,hsz],take_putCellsI cur _ (by omega),hl⟩
theorem lr{w W:World}{g cap n:Nat}{zs:List Int}(h:bO w W g cap n zs)(hbig:n<=17592186044416):Calls Tryz.prog 157 #[.slice (some ⟨g,0,none⟩) n cap] W λe W2=>e = .returned (.slice (some ⟨g,0,none⟩) (Lib.compact zs).length cap)/\bO w W2 g cap (Lib.compact zs).length (Lib.compact zs):=by
 obtain⟨hb,hg,cur,hcur,hcap,hmax,hsz,ht,rfl⟩:=h;refine(Any.slices_Compact_int ZH g 0 cap zs W (holds_of_blockI hcur ht) (by omega) hcap).mono λe W2 ⟨he,q,hW⟩=>⟨he,?_⟩;subst hW;have hcl:=Lib.compact_length_le zs
 generalize Lib.compact zs=cs at hcl ⊢
 generalize hts:cs++List.replicate (zs.length-cs.length) (0:Int)=ts
 have htl:ts.length=zs.length:=by rw[<- hts,Gn,K1];omega
 have b2:=IM (n:=q) (os:=#[]) (d:=ts.toArray) hb hg;have h2:=heap_sortedI (n:=q) (os:=#[]) ts.toArray hcur;rw[grow_empty]at b2 h2;have h3:=take_putCellsI cur ts (by omega);refine⟨b2,hg,_,h2,by omega,hmax,by simp[putCells,hsz],?_,rfl⟩;have:=Bx (List.take cs.length) h3;rw[List.take_take,Nat.min_eq_left (by omega),<- List.map_take,<- hts,List.take_left' rfl]at this;rw[<- hts];exact this
def sL(w w':World)(v:Value)(r:List Int):Prop:=
 (v = .slice none 0 0/\r=[])\/∃ g cap,v = .slice (some ⟨g,0,none⟩) r.length cap/\bO w w' g cap r.length r
set_option maxHeartbeats 4000000 in
set_option maxRecDepth 100000 in
theorem qn(a:Option Addr)(n c:Nat)(zs:List Int)(w:World)(hz:zs.length=n)(hn:a=none->n=0)(hbig:n<=17592186044416)
  (hc:0<n->∃ b off,a=some ⟨b,off,none⟩/\∀ j,j<n->w.cell? ⟨b,off+j,none⟩=some (.int .i64 (zs.getD j 0))) :
  Calls Tryz.prog 116 #[.slice a n c] w λe w'=>∃ v,e = .returned v/\Below w.heap.size w w'/\sL w w' v (Lib.compact (zs.mergeSort λx y=>decide (x<=y))):=by
 cases a with
 | none=>
  obtain rfl:=hn rfl;obtain rfl:zs=[]:=zzL116.1 hz
  have hr:Lib.compact (([]:List Int).mergeSort λx y=>decide (x<=y))=[]:=by simp[Lib.compact,Lib.compactUpTo]
  rw[hr];have h1:Calls Tryz.prog 155 #[.slice none 0 c] w λe w'=>e = .returned (.slice none 0 0)/\w'=w:=Any.slices_Clone_int_nil KV 0 c w;have h2:Calls Tryz.prog 156 #[.slice none 0 0] w λe w'=>e = .returned (.tuple #[])/\w'=w:=Any.slices_Sort_int_none kO none 0 w;have h3:Calls Tryz.prog 157 #[.slice none 0 0] w λe w'=>e = .returned (.slice none 0 0)/\w'=w:=Any.slices_Compact_int_empty ZH none 0 w
  go_enter Tryz.func116,Tryz.ntmps116
  go_wp2_with (first
   | (go_at_call 155;refine h1.mono ?_;rintro e W ⟨rfl,rfl⟩)
   | (go_at_call 156;refine h2.mono ?_;rintro e W ⟨rfl,rfl⟩)
   | (go_at_call 157;refine h3.mono ?_;rintro e W ⟨rfl,rfl⟩))
  go_ret
  exact⟨_,rfl,Below.refl _ _,.inl ⟨rfl,rfl⟩⟩
 | some ad=>
  have h1:Calls Tryz.prog 155 #[.slice (some ad) n c] w λe W=>∃ g cap,e = .returned (.slice (some ⟨g,0,none⟩) n cap)/\bO w W g cap n zs:=by
   by_cases h0:n=0
   ·subst h0;obtain rfl:zs=[]:=zzL116.1 hz;exact ot ad c w
   ·obtain⟨b,off,hab,hcell⟩:=hc (by omega);obtain rfl:=OI hab;exact tx b off n c zs w hz hbig hcell
  go_enter Tryz.func116,Tryz.ntmps116
  go_wp2_with (first
   | (go_at_call 155;refine h1.mono ?_;rintro e W ⟨g,cap,rfl,hO⟩)
   | (go_at_call 156;refine(xg hO hbig).mono ?_;rintro e W2 ⟨rfl,hO2⟩)
   | (go_at_call 157;refine(lr hO2 hbig).mono ?_;rintro e W3 ⟨rfl,hO3⟩))
  go_ret
  exact⟨_,rfl,hO3.1,.inr ⟨_,_,rfl,hO3⟩⟩
def iG(x:Int):List Int->List Int
 | []=>[x]
 | y::l=>if x<=y then x::y::l else y::iG x l
def pO:List Int->List Int
 | []=>[]
 | x::l=>iG x (pO l)
theorem insI_perm(x:Int):∀ l,(iG x l).Perm (x::l)
 | []=>.refl _
 | y::l=>by
  unfold iG
  split
  ·exact .refl _
  ·exact((insI_perm x l).cons y).trans (.swap x y l)
theorem kL{x:Int}:∀{l:List Int},l.Pairwise (·<=·)->(iG x l).Pairwise (·<=·)
 | [],_=>by simp[iG]
 | y::l,h=>by
  have h':=zzL94.1 h;unfold iG
  split
  ·rename_i hxy
   exact zzL94.2 ⟨λz hz=>by
    rcases zzL28.1 hz with rfl|hz
    ·exact hxy
    ·exact Int.le_trans hxy (h'.1 z hz),h⟩
  ·rename_i hxy
   refine zzL94.2 ⟨λz hz=>?_,kL h'.2⟩;rcases zzL28.1 ((insI_perm x l).mem_iff.1 hz) with rfl|hz
   ·omega
   ·exact h'.1 z hz
theorem ZG:∀ l,(pO l).Perm l
 | []=>.refl _
 | x::l=>(insI_perm x _).trans ((ZG l).cons x)
theorem kN:∀ l,(pO l).Pairwise (·<=·)
 | []=>.nil
 | x::l=>kL (kN l)
theorem kM(l:List Int):pO l=l.mergeSort λx y=>decide (x<=y):=by
 refine List.Perm.eq_of_pairwise (le:=(·<=·)) (λa b _ _ h1 h2=>Int.le_antisymm h1 h2) (kN l) ?_ ((ZG l).trans (List.mergeSort_perm l _).symm);have:=List.pairwise_mergeSort (le:=λ(x y:Int)=>decide (x<=y)) (λa b c h1 h2=>by simp at *;omega) (λa b=>by simp;omega) l
 exact this.imp λh=>by simpa using h
def KC(l:List Int):Option (List Int):=Aw (l.length<=17592186044416) (some (Lib.compact (pO l)))
theorem jJ(l r:List Int)(h:KC l=some r):Spec Tryz.prog 116 [AV.list 1 (λx=>[.int .i64 x]) (0:Int) l .none] [] (AV.list 1 (λx=>[.int .i64 x]) (0:Int) r .none) []:=by
 obtain⟨hlen,h⟩:=Uq h;rw[kM]at h;obtain rfl:=OI h;refine⟨enters_of Tryz.func116 (by kernel_rfl) rfl,λw I θ zs hargs _ hval _=>?_⟩;obtain⟨v,rfl,hv⟩:=qP hargs;obtain⟨_,a,cap,us,rfl,hcap,hmax,hz,hnn,h1,hl,hr⟩:=hv.slice_val.slice_inv
 have hint:∀ i,i<l.length->us i = .int .i64 (l.getD i 0):=λi hi=>by
  have:=hr i 0 hi (by omega);rw[Y0,Td]at this;have h2:RepV I w (us i) (.int .i64 (l.getD i 0)):=this;exact Rep.int_inv (own:=Ah []) (θ:=θ) (.val _ _ h2)
 refine(qn a l.length cap l w rfl (λha=>by have:=hnn ha;omega) hlen (λhp=>?_)).mono λe w' ⟨v,he,hb,hout⟩=>?_
 ·obtain⟨b,rfl,hs,_,hcell⟩:=hz hp;obtain⟨blk,off,spot⟩:=b;simp only at hs hcell;subst hs;exact⟨blk,off,rfl,λj hj=>by rw[hcell j (by omega),hint j hj]⟩
 ·generalize Lib.compact (l.mergeSort λx y=>decide (x<=y))=r at hout ⊢
  rcases hout with⟨rfl,rfl⟩|⟨g,cap',rfl,_,hg,cur,hcur,hc1,hc2,hc3,htake,_⟩
  ·exact⟨_,_,θ,he,FX hb hval (N:=λ_ _=>False) (λ_ _ h=>h.elim),.val _ _ (.slice none 0 0 1 _ (λ_=>undef) (zzL8 _) (L6 _) (λh=>by cases h) (λ_=>rfl) (λj hj=>by simp at hj) (λi hi=>by cases hi) (λi c hi=>by cases hi))⟩
  ·have hcell:∀ j,j<r.length->w'.cell? ⟨g,j,none⟩=some (.int .i64 (r.getD j 0)):=λj hj=>by
    rw[Rn _ _ _ cur 3 (0,0) hcur]
    have h2:(cur.toList.take r.length)[j]?=(r.map (Value.int .i64))[j]?:=by rw[htake]
    rw[List.getElem?_take_of_lt hj,Array.getElem?_toList]at h2;rw[h2];simp[List.getD,hj]
   refine⟨_,_,θ,he,FX hb hval (N:=λb o=>b=g/\o<r.length) (λb o ⟨hbg,ho⟩=>⟨by omega,by subst hbg;exact⟨_,hcell o ho⟩⟩),.val _ _ (.slice (some ⟨g,0,none⟩) r.length cap' 1 _ (λj=>.int .i64 (r.getD j 0)) hc1 hc2 (λ_=>⟨⟨g,0,none⟩,rfl,rfl,λj hj=>.inr ⟨rfl,by simpa using hj⟩,λj hj=>by rw[Hz];exact hcell j (by omega)⟩) (λh=>by cases h) (λ_ _=>rfl) (λ_ _=>rfl) (λi c hi hc=>?_))⟩
   obtain rfl:c=0:=by omega
   rw[Y0,Td];exact .int _ _
abbrev Am:=List Int
abbrev Ey:=List (List Int)
def O1:=[(30000,30000),(30001,30001),(37101,37101),(35002,35002),(35100,35100),(9100001,9100001)]
def Eu:=[30000,30001,35002,35100,37101,9100001]
def L1:=[5,30000,30001,35002,35100,37101]
def Rq:=[4,30000,30001,35002,35100,37101,9100001]
def Hb:=[30000,35000,37001]
def IB:=[(30000,30000),(30001,30001),(37101,37101),(35002,35002),(35100,35100)]
def Ja:=[30000,37006,9100005]
def Vg:=[3,30000,30001,35002,35100,37101,9100001]
def Lk:=[0,1,5,6,7,9,10]
def Y4:=[31,30000,30001,35002,35100,37101,9100001]
def Tx:=[(30000,30000),(37006,37006),(9100005,9100005)]
def D4:=[30000,37006]
def V2:=[4,6,30000,30001,35002,35100,37101,9100001]
def My:=[3,30000,37006,9100005]
def Xj:=[(30000,30000),(37001,37001),(35000,35000)]
def Xk:=[13,30000,30001,35002,35100,37101,9100001]
def J9:=[2,5,6,25,36007]
def Ew:=[1,5,5003]
def Pd:=[6,30000,37006,9100005]
def EM:=[12,30000,30001,35002,35100,37101,9100001]
def KE:=[3,34,30000,30001,35002,35100,37101,9100001]
def Xl:=[30000,30001,35002,35100,37101]
def B7:=[2,3]
def Fd:=[1,3,4]
def Zs:=[(30000,30000),(37006,37006)]
def OZ:=[2,3,9,11,50,86,88,60050000,60050001]
def V3:=[26,30000,35000,37001]
def Ka:=[2,13,21]
def Ro:=[8,30000,37006]
def Ik:=[0,3,4]
def KF:=[30000,30001,37101,35002,35100]
def L7:=[1,3,4,5]
def Nd:=[1,7,8,9]
def Zt:=[30000,37006,13000005]
def E6:=[0,1]
def KG:=[3,5,30000,37006,9100005]
def KH:=[0,4,6,21,22,30,31,32]
def Te:=[1,3,4,5,6]
def GV:=[2,5,6,7,26,27,28]
def V4:=[2,7,77,70077]
def wT:=[(30000,30000),(30001,30001),(37101,37101),(35002,35002),(35100,35100),(9100001,9100001),(6004,20000)]
def wU:=[(30000,30000),(30001,30001),(37101,37101),(35002,35002),(35100,35100),(9100001,9100001),(25,20000)]
def wV:=[(30000,30000),(30001,30001),(37101,37101),(35002,35002),(35100,35100),(9100001,9100001),(20,20000)]
def Li:=[37,75]
def Nf:=[1,5003]
def PA:=[5,30000,37006,9100005]
def k5:=[0,2,3,8,9,16,17,18,54,55,56,62,63,64]
def K3:=[3,14]
def k6:=[0,2,3,5,16,17,18,24,25,26,31,32,33]
def Ty:=[1,6,5003]
def GW:=[2,5,6,7,8,9]
def Qd:=[0,1,5]
def Zu:=[1,2,7,5005]
def wW:=[(34,30000),(30000,30001),(37001,37101),(32,35002),(35000,35100),(37,9100001)]
def k7:=[30000,30001,37101,35002,35100,9100001]
def WK:=[1,2,4,5,6,7,8,10]
def bF:=[3,9,30000,37006,9100005]
def Xm:=[0,3,4,34]
def EN:=[2,5,6,7,8]
def fp:=[0,2,3,16,17,18,24,25,26]
def fq:=[0,2,3,16,17,18,54,55,56]
def Vb:=[2,33,59]
def GX:=[0,1,3,9,10]
def rj:=[(30000,30000),(37006,37006),(13000005,9200005)]
def rl:=[(30000,30000),(37006,37006),(9300005,9200005)]
def V5:=[10,70010]
def rm:=[(50,30000),(60050001,37001),(60050000,35000)]
def Mz:=[1,3]
def WL:=[1,2,7,5005,5008]
def rp:=[33,30000,30001,35002,35100,37101,9100001]
def rq:=[34,30000,30001,35002,35100,37101,9100001]
def PB:=[1,5,7,11,12]
def WM:=[2,35,37,46,51]
def Ou:=[0,3]
def Ov:=[4,5]
def wX:=[2,3,9,11,50,88,106,60050000,60050001,60106000,60106001]
def PC:=[1,7,8,9,10]
def Pe:=[1,2]
def bG:=[3,31,30000,37006]
def wY:=[(30000,30000),(37001,37001),(35000,35000),(6008,20000)]
def bH:=[1,5,7,11,12,13]
def ft:=[1,2,5,6,7,8,9,10]
def PD:=[1,6,7,8,9]
def k8:=[3,4,11,12,13,18,19,20]
def k9:=[0,5,12,13,14,18,19,20]
def lB:=[3,5,14,15,16,21,22,23]
def wZ:=[(30000,30000),(37001,37001),(35000,35000),(9,20000)]
def Xn:=[2,5,6]
def Xo:=[1,4,7]
def lD:=[6,7,30000,37006,9100005]
def lE:=[1,5,7,11,12,13,14,15]
def WN:=[1,7,8,9,16]
def GY:=[0,21,22]
def fu:=[0,1,10,11,28,29]
def Zv:=[0,1,2]
def bI:=[31,30000,37006]
def Rz:=[1,4]
def KI:=[1,3,5,6]
def lF:=[3,14,15,16,33,34,35]
def bJ:=[1,2,5,6,7,8]
def rF:=[2,3,50,56,60050000,60050001,60056000,60056001]
def jM:=[2,3,5,9,10,11,12,13,14,15]
def HW:=[0,37,38,39]
def VI:=[0,2,3,16,17,18]
def VJ:=[0,1,9,21,22,23]
def EK:=[33,59,103]
def rG:=[3,12,30000,30001,35002,35100,37101,9100001]
def rH:=[6004,30000,30001,35002,35100,37101,9100001]
def jN:=[0,4,6,21,22,30,31,32,33]
def jO:=[0,4,6,21,22,30,31,32,40]
def MX:=[0,5,8,9,10]
def jP:=[0,4,6,8,21,22,30,31,32]
def rI:=[25,30000,30001,35002,35100,37101,9100001]
def rJ:=[(30001,30000),(37101,37001),(35100,35000)]
def rK:=[20,30000,30001,35002,35100,37101,9100001]
def cU:=[0,1,2,6,14,15,16]
def MY:=[1,5,72,5003]
def jQ:=[2,3,5,9,10,11,12,13,14]
def VK:=[2,3,7,8,9,10]
def VM:=[1,2,6,8,9,10]
def rL:=[(30000,30000),(37006,37006),(8,9200005)]
def cV:=[2,3,6,7,8,36,37]
def cW:=[1,3,4,5,9,10,11]
def HX:=[1,3,7,17]
def Wl:=[1,2,5]
def Y2:=[0,1,10]
def MZ:=[0,16,17,18]
def VN:=[0,2,4,7,8,9]
def NA:=[1,2,4,5,6]
def NB:=[1,5,7,5003]
def jR:=[2,3,50,60050000,60050001]
def cX:=[2,5,6,7,8,9,10]
def jS:=[6,8,30000,37006,9100005]
def VO:=[3,30000,37006]
def VP:=[0,1,7,10,11]
def cY:=[2,4,5,18,19,20]
def cZ:=[0,2,4,11,12,13]
def ca:=[1,3,4,5,6,7,8]
def rM:=[2,3,9,11,50,88,60050000,60050001]
def Y3:=[1,2,3]
def VQ:=[(30000,30000)]
def Sk:=[8,9]
def rN:=[4,8,32,34,37,30000,35000,37001]
def VR:=[3,11,12,13]
def VS:=[0,12,13,14]
def VT:=[6,18,19,25]
def VU:=[3,14,15,16]
def VV:=[0,2,4,7,8]
def VW:=[2,3,7,8,9]
def VX:=[1,3,5,6,7]
def VY:=[1,3,5,6,8]
def VZ:=[1,3,4,5,9]
def jT:=[1,5,7,11,12,13,14]
def rO:=[2,3,5,9,10,11,12,14,16,110]
def NC:=[2,5,6,7]
def ND:=[18,19,20]
def cd:=[0,6,14,15,16]
def ce:=[0,6,39,40,41]
def jU:=[1,2,4,5,6,7,8,9]
def Wm:=[2,16]
def rP:=[2,5,6,7,9,10,26,27,28,44]
def HY:=[1,4,22]
def rQ:=[4,8,32,34,30000,35000,37001]
def HZ:=[1,3,17]
def WA:=[5,7,12,13]
def jV:=[30000,37006,9300005]
def NE:=[2,35,37]
def cf:=[2,3,5,7,64]
def rR:=[2,3,5,9,10,11,12,14,16]
def jW:=[0,1,5,14,15,16]
def jX:=[1,2,4,5,6,7,8]
def IA:=[1,2,6]
def rS:=[2,5,6,7,9,10,26,27,28]
def Wn:=[0,4]
def cg:=[3,10,11,12]
def Wo:=[2,5]
def cj:=[(6004,20000)]
def Wp:=[7,8]
def ck:=[0,15,16,17]
def WB:=[0,1,2,3]
def cl:=[0,21,22,23]
def WC:=[0,2,4,5]
def WD:=[1,2,5005]
def WE:=[2,3,7,8]
def rT:=[2,3,56,60056000,60056001]
def rU:=[2,5,6,7,26,27,28,29]
def EL:=[2,33]
def WF:=[5,18,19]
def WG:=[6,18,19]
def jY:=[1,2,15,16,17]
def rV:=[2,5,6,7,9,26,27,28]
def jZ:=[0,1,32,33,34]
def rW:=[10,30000,37006,9100005]
def ja:=[3,5,14,15,16]
def rX:=[6008,30000,35000,37001]
def rY:=[4,8,30000,35000,37001]
def rZ:=[1,20,60020000,60020001]
def NF:=[1,3,5]
def jb:=[1,3,5,6,7,8]
def cm:=[2,5,6,25]
def re:=[2,5,6,7,8,9,10,60]
def rf:=[4,30000,37006,9100005]
def cn:=[0,1,9,10]
def jd:=[0,3,4,14,15]
def je:=[0,4,6,21,22]
def cp:=[0,2,7,8]
def jf:=[(34001,34001)]
def NG:=[18,19]
def rg:=[8,30000,35000,37001]
def cq:=[1,3,4,6]
def rh:=[2,7,77,60077,70077]
def NH:=[15,18]
def ri:=[9,30000,35000,37001]
def cr:=[2,3,5,7]
def jg:=[1,23,24,25]
def jh:=[1,2,5,6,7]
def WH:=[0,2,7]
def ji:=[3,38,39,40]
def jj:=[(6002,20000)]
def jk:=[0,2,4,5,6]
def jl:=[(5003,20000)]
def WI:=[2,3,5]
def jm:=[2,35,37,46]
def WJ:=[2,5,7]
def jn:=[0,1,12,13]
def jo:=[0,6,21,22]
def jp:=[(30,20000)]
def jq:=[(20000,9)]
def jr:=[(5,30000)]
set_option maxRecDepth 100000
set_option maxHeartbeats 2000000
def Ay(x:Int):List AV:=[(.int .i64 x)]
def Lc(x:Am):List AV:=[(AV.list 1 Ay 0 x .none)]
structure Fe where
 Bits:Int
 Dst:Int
 From:Am
 Args:Am
 deriving Inhabited,DecidableEq
def Wx(x:Fe):List AV:=[(.int .i64 x.Bits),(.int .i64 x.Dst),(AV.list 1 Ay 0 x.From .none),(AV.list 1 Ay 0 x.Args .none)]
def xm(x:List Fe):List AV:=[(AV.list 4 Wx default x .none)]
def Dd(x:Int):List AV:=[(.int .u64 x)]
structure C5 where
 Kind:Int
 Bits:Int
 Lanes:Int
 Dst:Int
 Args:Am
 Imm:Int
 deriving Inhabited,DecidableEq
def PO(x:C5):List AV:=[(.int .i64 x.Kind),(.int .i64 x.Bits),(.int .i64 x.Lanes),(.int .i64 x.Dst),(AV.list 1 Ay 0 x.Args .none),(.int .u64 x.Imm)]
def Aai(x:List C5):List AV:=[(AV.list 6 PO default x .none)]
structure L8 where
 Kind:Int
 Arg:Int
 To:Am
 deriving Inhabited,DecidableEq
def du(x:L8):List AV:=[(.int .i64 x.Kind),(.int .i64 x.Arg),(AV.list 1 Ay 0 x.To .none)]
structure Aj where
 Phis:List Fe
 Ops:List C5
 End:L8
 deriving Inhabited,DecidableEq
def Jv(x:Aj):List AV:=[(AV.list 4 Wx default x.Phis .none),(AV.list 6 PO default x.Ops .none),(.int .i64 x.End.Kind),(.int .i64 x.End.Arg),(AV.list 1 Ay 0 x.End.To .none)]
def pB(x:List Aj):List AV:=[(AV.list 5 Jv default x .none)]
structure TFunc where
 Params:Am
 Ret:Int
 Blocks:List Aj
 deriving Inhabited,DecidableEq
def eTFunc(x:TFunc):List AV:=[(AV.list 1 Ay 0 x.Params .none),(.int .i64 x.Ret),(AV.list 5 Jv default x.Blocks .none)]
def D7(x:Am):List AV:=[(AV.list 1 Dd 0 x .none)]
def Qi(x:Int):List AV:=[(.int .u8 x)]
def Ab1(x:Am):List AV:=[(AV.list 1 Qi 0 x .none)]
structure TCase where
 Args:Am
 Mem:Am
 Fuel:Int
 deriving Inhabited,DecidableEq
def eTCase(x:TCase):List AV:=[(AV.list 1 Dd 0 x.Args .none),(AV.list 1 Qi 0 x.Mem .none),(.int .i64 x.Fuel)]
def eB(x:Bool):List AV:=[(.bool x)]
structure Ad where
 Write:Bool
 At:Int
 Byte:Int
 deriving Inhabited,DecidableEq
def Fs(x:Ad):List AV:=[(.bool x.Write),(.int .u64 x.At),(.int .u8 x.Byte)]
structure xH where
 bytes:Am
 trace:List Ad
 deriving Inhabited,DecidableEq
structure PK where
 Code:Int
 Value:Int
 Steps:Int
 deriving Inhabited,DecidableEq
def FY(x:PK):List AV:=[(.int .i64 x.Code),(.int .u64 x.Value),(.int .i64 x.Steps)]
abbrev Hr:=(Int×Int)
def Bs(x:Hr):List AV:=[(.int .i64 x.1),(.int .i64 x.2)]
structure L9 where
 block:Int
 at_:Int
 deriving Inhabited,DecidableEq
def QN(x:L9):List AV:=[(.int .i64 x.block),(.int .i64 x.at_)]
structure Bj where
 v:Int
 shape:Hr
 place:L9
 deriving Inhabited,DecidableEq
def Oj(x:Bj):List AV:=[(.int .i64 x.v),(.int .i64 x.shape.1),(.int .i64 x.shape.2),(.int .i64 x.place.block),(.int .i64 x.place.at_)]
structure TGraph where
 Succ:Ey
 Pred:Ey
 deriving Inhabited,DecidableEq
def X0(x:TGraph):List AV:=[(AV.list 1 Lc [] x.Succ .none),(AV.list 1 Lc [] x.Pred .none)]
structure A1 where
 shape:Hr
 place:L9
 deriving Inhabited,DecidableEq
def kG(x:A1):List AV:=[(.int .i64 x.shape.1),(.int .i64 x.shape.2),(.int .i64 x.place.block),(.int .i64 x.place.at_)]
structure Cb where
 V:Int
 Block:Int
 At:Int
 Shape:Hr
 deriving Inhabited,DecidableEq
def Py(x:Cb):List AV:=[(.int .i64 x.V),(.int .i64 x.Block),(.int .i64 x.At),(.int .i64 x.Shape.1),(.int .i64 x.Shape.2)]
structure Cz where
 V:Int
 Block:Int
 At:Int
 Shape:Hr
 deriving Inhabited,DecidableEq
def O5(x:Cz):List AV:=[(.int .i64 x.V),(.int .i64 x.Block),(.int .i64 x.At),(.int .i64 x.Shape.1),(.int .i64 x.Shape.2)]
def uK(x:List Bool):List AV:=[(AV.list 1 eB false x .none)]
abbrev yT1:=(Int×AV)
def YE:List yT1:=[((0:Int),(.clo 48 [] [])),((13:Int),(.clo 49 [(.ptr 30000 0)] [])),((14:Int),(.clo 78 [] [(.rpo [(.clo 51 [] [])]),(.rpo [(.ptr 30000 0)])])),((15:Int),(.clo 78 [] [(.rpo [(.clo 52 [] [])]),(.rpo [(.ptr 30000 0)])])),((16:Int),(.clo 53 [(.ptr 30000 0)] [])),((17:Int),(.clo 54 [(.ptr 30000 0)] [])),((18:Int),(.clo 82 [] [(.rpo [(.ptr 30000 0)]),(.rpo [(.clo 53 [(.ptr 30000 0)] [])])])),((19:Int),(.clo 82 [] [(.rpo [(.ptr 30000 0)]),(.rpo [(.clo 54 [(.ptr 30000 0)] [])])])),((20:Int),(.clo 82 [] [(.rpo [(.ptr 30000 0)]),(.rpo [(.clo 83 [] [(.rpo [(.ptr 30000 0)]),(.rpo [(.int .i64 (4:Int))])])])])),((21:Int),(.clo 57 [(.ptr 30000 0)] [])),((22:Int),(.clo 58 [(.ptr 30000 0)] [])),((1:Int),(.clo 83 [] [(.rpo [(.ptr 30000 0)]),(.rpo [(.int .i64 (1:Int))])])),((2:Int),(.clo 83 [] [(.rpo [(.ptr 30000 0)]),(.rpo [(.int .i64 (2:Int))])])),((3:Int),(.clo 83 [] [(.rpo [(.ptr 30000 0)]),(.rpo [(.int .i64 (3:Int))])])),((4:Int),(.clo 83 [] [(.rpo [(.ptr 30000 0)]),(.rpo [(.int .i64 (4:Int))])])),((5:Int),(.clo 83 [] [(.rpo [(.ptr 30000 0)]),(.rpo [(.int .i64 (5:Int))])])),((6:Int),(.clo 83 [] [(.rpo [(.ptr 30000 0)]),(.rpo [(.int .i64 (6:Int))])])),((7:Int),(.clo 83 [] [(.rpo [(.ptr 30000 0)]),(.rpo [(.int .i64 (7:Int))])])),((8:Int),(.clo 83 [] [(.rpo [(.ptr 30000 0)]),(.rpo [(.int .i64 (8:Int))])])),((9:Int),(.clo 83 [] [(.rpo [(.ptr 30000 0)]),(.rpo [(.int .i64 (9:Int))])])),((10:Int),(.clo 83 [] [(.rpo [(.ptr 30000 0)]),(.rpo [(.int .i64 (10:Int))])])),((11:Int),(.clo 83 [] [(.rpo [(.ptr 30000 0)]),(.rpo [(.int .i64 (11:Int))])])),((12:Int),(.clo 83 [] [(.rpo [(.ptr 30000 0)]),(.rpo [(.int .i64 (12:Int))])]))]
theorem mix:Tryz.prog.follows .mixedOrders=true:=by kernel_rfl
abbrev sP:=Spec Tryz.prog
abbrev Uc:=(Nat×Own)
theorem sG {f : FuncId} {fn : Func} {args : List AV} {H H' : List Uc} {res : AV} (hf : Tryz.prog.funcs[f]? = some fn) (k : ∀ Γ : Il, RgQ Tryz.prog Γ fn.ntmps H → GG Tryz.prog Γ (fK Tryz.prog Γ fn.results.toList H res H') (wF (bY fn) []) (KU args H)) (hb : fn.body.isSome = true := by kernel_rfl) (hname : (fn.name == "runtime.NumGoroutine") = false := by kernel_rfl) (hlen : Nat.ble args.length fn.ntmps = true := by kernel_rfl) (hpl : TV H = true := by kernel_rfl) : sP f args H res H' := MA mix hf k hb hname hlen hpl
def Z1:=λ(za:List (List (Int))) zb zc (zd:Am) zf zg=>([(30000,.row 85 [(.ptr 30001 0),(.omap 9100001),(.vsl 35002 za.length),(.int .i64 zb),(.int .i64 zc)]),(30001,.row 79 [(.vsl 35100 zd.length),(AV.list 3 Fs default zf (.own 37101))]),(37101,.tok 3 49 zg),(35002,.arr 1 26 za.length (λi=>D7 (za.getD i []))),(35100,.arr 1 5 zd.length (λi=>Qi (zd.getD i 0))),(9100001,.obj (.tab .i64 YE))]:List Uc)
def Z2:=λza zb zc zd zf zg zm=>((30000,.row 109 [(AV.list 1 Ay 0 za .none),(.int .i64 zb),(AV.list 5 Jv default zc .none),(.int .i64 zd),(AV.list 1 Ay 0 zf .none),(.omap zg),(AV.list 5 Oj default zm (.own 37006))]):Nat×Own)
def Z3:=λza zb zc zd zf zg zm=>([(30000,.row 109 [(AV.list 1 Ay 0 za .none),(.int .i64 zb),(AV.list 5 Jv default zc .none),(.int .i64 zd),(AV.list 1 Ay 0 zf .none),.nilm,(AV.list 5 Oj default zg (.own 37006))]),(37006,.tok 5 152 zm)]:List Uc)
def Z4:=λza zb zc zd zf zg zm zn zp zq zt zv=>(⟨[(30000,30000),(30001,30001),(37101,37101),(35002,35002),(35100,35100),(9100001,9100001)],[(20000,31)],(.tuple [(AV.list 1 Dd 0 za (.own 20000)),(.int .i64 zb)]),[(30000,.row 85 [(.ptr 30001 0),(.omap 9100001),zc,(.int .i64 zd),zf]),(30001,.row 79 zg),(37101,.tok 3 49 zm),(35002,.arr 1 26 zn zp),(35100,.arr 1 5 zq zt),(9100001,.obj (.tab .i64 YE)),(20000,.tok 1 37 zv)],[],[30000,30001,37101,35002,35100,9100001]⟩:Qe)
def Z5:=λ(za:Am) zb zc=>([(30000,.row 79 [(.vsl 35000 za.length),(AV.list 3 Fs default zb (.own 37001))]),(37001,.tok 3 49 zc),(35000,.arr 1 5 za.length (λi=>Qi (za.getD i 0)))]:List Uc)
def Z6:=λ(za:List (List (Int))) zb zc (zd:Am) zf zg=>([(30000,.row 85 [(.ptr 30001 0),.nilm,(.vsl 35002 za.length),(.int .i64 zb),(.int .i64 zc)]),(30001,.row 79 [(.vsl 35100 zd.length),(AV.list 3 Fs default zf (.own 37101))]),(37101,.tok 3 49 zg),(35002,.arr 1 26 za.length (λi=>D7 (za.getD i []))),(35100,.arr 1 5 zd.length (λi=>Qi (zd.getD i 0)))]:List Uc)
def Z7:=λ(za:List (List (Int))) zb zc (zd:Am) zf zg zm=>([(30000,.row 85 [(.ptr 30001 0),(.omap 9100001),(.vsl 35002 za.length),(.int .i64 zb),(.int .i64 zc)]),(30001,.row 79 [(.vsl 35100 zd.length),(AV.list 3 Fs default zf (.own 37101))]),(37101,.tok 3 49 zg),(35002,.arr 1 26 za.length (λi=>D7 (za.getD i []))),(35100,.arr 1 5 zd.length (λi=>Qi (zd.getD i 0))),(9100001,.obj (.tab .i64 YE)),(20000,.tok 1 37 zm)]:List Uc)
def Z8:=λza=>(⟨[],[],(.bool za),[],[],[]⟩:Qe)
def Z9:=λza zb (zc:Am) zd zf zg=>([(za,.row 79 [(.vsl zb zc.length),(AV.list 3 Fs default zd (.own zf))]),(zb,.arr 1 5 zc.length (λi=>Qi (zc.getD i 0))),(zf,.tok 3 49 zg)]:List Uc)
def Ax:=λza=>((.int .i64 za):AV)
def YJ:=λza zb zc=>([(.ptr 30001 0),(.omap 9100001),(.vsl 35002 za),(Ax zb),(Ax zc)]:List AV)
def AQ:=λza (zb:Am)=>((za,.arr 1 3 zb.length (λi=>Ay (zb.getD i 0))):Nat×Own)
def WO:=λza zb zc zd=>([(.vsl za zb),(AV.list 3 Fs default zc (.own zd))]:List AV)
def Rp:=λza=>((AV.list 1 Ay 0 za .none):AV)
def ta:=λza=>((AV.list 2 Bs ((0:Int),(0:Int)) za .none):AV)
def FV:=λza (zb:Am)=>((za,.arr 1 5 zb.length (λi=>Qi (zb.getD i 0))):Nat×Own)
def z6:=λza zb zc zd zf zg zm zn=>([(Z2 za zb zc zd zf 9100005 zg),(37006,.tok 5 152 zm),(9100005,.obj (.map false .i64 zn))]:List Uc)
def dN:=λza zb zc zd=>((za,.arr 1 22 zb (Oy 1 Ay (0:Int) zc (Tag.fam zd))):Nat×Own)
def YK:=λza (zb:List (List (Int)))=>((za,.arr 1 26 zb.length (λi=>D7 (zb.getD i []))):Nat×Own)
def z7:=λza zb zc zd zf zg zm=>(⟨[(30000,30000),(30001,30001),(37101,37101),(35002,35002),(35100,35100),(9100001,9100001)],[],(.int .u64 za),(Z1 zb zc zd zf zg zm),[],[30000,30001,37101,35002,35100,9100001]⟩:Qe)
def Px:=((.int .i64 (0:Int)):AV)
def WZ:=λza=>(⟨[],[],(.int .u64 za),[],[],[]⟩:Qe)
def yk:=λza zb=>(⟨[(30000,30000),(30001,30001),(37101,37101),(35002,35002),(35100,35100),(9100001,9100001)],[],(.agg (FY za)),zb,[],[30000,30001,37101,35002,35100,9100001]⟩:Qe)
def bU:=((AV.list 1 Dd 0 ([]:Am) .exact):AV)
def Vc:=λza=>((.int .i64 (za:Int)):AV)
def lf:=λza (zb:List Bool)=>((za,.arr 1 4 zb.length (λi=>eB (zb.getD i false))):Nat×Own)
def YL:=λza=>((AV.list 5 Jv default za .none):AV)
def lg:=λza zb=>((AV.list 1 Dd 0 za (.own zb)):AV)
def Tz:=((2,(.ptr 2 0)):Nat×AV)
def WP:=λza zb=>((AV.list 1 Ay 0 za (.own zb)):AV)
def bV:=λza zb zc zd zf zg zm=>([(Z2 za zb zc zd zf 9100005 zg),(37006,.tok 5 152 zm)]:List Uc)
def Qh:=λza=>((.int .u64 za):AV)
def Z33:=λza zb zc zd zf zg zm zn zp zq=>(⟨[(30000,30000),(30001,30001),(37101,37101),(35002,35002),(35100,35100),(9100001,9100001)],[(20000,za)],(.tuple [(lg zb 20000),(Ax zc)]),(Z7 zd zf zg zm zn zp zq),[],[]⟩:Qe)
def nF:=λza=>((3,(AV.list 5 O5 default za (.own 5003))):Nat×AV)
def Z35:=λza (zb:Am) (zc:Am)=>((.slice 1 (bif za then zb.length else zc.length) (λi=>bif za then Ay (zb.getD i 0) else Ay (zc.getD i 0)) .none):AV)
def dO:=((.slice 0 0 (λ_=>[]) .exact):AV)
def oB:=λza (zb:Am)=>((za,.arr 1 37 zb.length (λi=>Dd (zb.getD i 0))):Nat×Own)
def Y7:=([(.ptr 30000 0)]:List AV)
def Z39:=λza zb zc zd zf zg zm zn=>([(30000,.row 85 (YJ za zb zc)),(30001,.row 79 (WO 35100 zd zf 37101)),(YK 35002 zg),(FV 35100 zm),(37101,.tok 3 49 zn),(9100001,.obj (.tab .i64 YE))]:List Uc)
def z8:=λza zb zc zd zf zg=>((30000,.row 109 [(Rp za),(Ax zb),(YL zc),(Ax zd),(Rp zf),(.omap 8),(AV.list 5 Oj default zg (.own 37006))]):Nat×Own)
def Z41:=λ(za:Am)=>((.slice 1 (za.length-(1:Int).toNat) (λi=>Ay (za.getD ((1:Int).toNat+i) 0)) .none):AV)
def XA:=λza=>(⟨[],[],(Ax za),[],[],[]⟩:Qe)
def WQ:=λza=>((AV.list 1 Lc [] za .none):AV)
def Xt:=λza=>((.agg (kG za)):AV)
def oC:=((AV.list 1 Ay 0 ([]:Am) .exact):AV)
def Z46:=λza zb zc zd zf zg zm=>(⟨[(30000,30000),(30001,30001),(37101,37101),(35002,35002),(35100,35100),(9100001,9100001)],[],(.bool za),(Z1 zb zc zd zf zg zm),[],[30000,30001,37101,35002,35100,9100001]⟩:Qe)
def Z47:=λza zb zc=>(⟨[(30000,30000),(30001,30001),(37101,37101),(35002,35002),(35100,35100)],[],(.clo 83 [] [(.rpo za),(.rpo [(Vc zb)])]),zc,[],[30000,30001,37101,35002,35100]⟩:Qe)
def xO:=λza zb zc zd zf=>((37,.arr 1 93 za (λi_=>AV.eraseAll zb ((E0 zc zd 0 [(.vsl 46 zf)]) i_))):Nat×Own)
def Z49:=λza zb zc zd zf zg zm zn=>(⟨[(30000,30000),(37006,37006),(9100005,9100005)],[],(.tuple []),(z6 za zb zc zd zf zg zm zn),[],[]⟩:Qe)
def XB:=λza zb=>((AV.list 1 eB false za (.own zb)):AV)
def RN:=((.int .i64 (1:Int)):AV)
def Z52:=(⟨[(4,(AV.list 1 Ay 0 ([]:Am) (.own 6004)))],[(6004,.tok 1 3 (([]:Am).length))],[]⟩:St)
abbrev YG:=(Nat×AV)
def Z53:=λza zb zc zd=>([(za,(AV.list 5 O5 default zb .exact)),(zc,(AV.list 5 O5 default (zd++zb) (.own 5003)))]:List YG)
def tb:=λza=>((3,(AV.list 5 Py default za (.own 5003))):Nat×AV)
def Z55:=λza (zb:List Bj) (zc:List Bj)=>((.slice 5 (bif za then zb.length else zc.length) (λi=>bif za then Oj (zb.getD i default) else Oj (zc.getD i default)) (.own 37006)):AV)
def KM:=λza zb zc zd zf=>((za,.row 79 (WO zb zc zd zf)):Nat×Own)
def FW:=((1,(.ptr 1 0)):Nat×AV)
def Sl:=λza zb=>((za,.tok 1 4 zb):Nat×Own)
def YM:=λza zb zc=>((30000,.row 85 (YJ za zb zc)):Nat×Own)
def tc:=λza=>((AV.list 1 Ay 0 ([za]:Am) .exact):AV)
def Z61:=((AV.list 2 Bs ((0:Int),(0:Int)) ([]:List Hr) .exact):AV)
def rz:=λza zb=>((AV.list 3 Fs default za (.own zb)):AV)
def vt:=λza zb=>((.agg (kG (H8 (default:A1) za zb))):AV)
def f5:=λza=>((AV.list 1 Dd 0 za .none):AV)
def lh:=λza=>(⟨[],[],(ta za),[],[],[]⟩:Qe)
def r9:=λza zb=>([(.agg (X0 za)),(Ax zb)]:List AV)
def Z67:=λza zb zc zd zf zg=>(⟨[],[(20000,za),(21000,zb),(21001,zc)],(.tuple [zd,(Ax zf)]),(bif true then zg else[]),[],[]⟩:Qe)
def yl:=((AV.list 1 Lc [] ([]:Ey) .exact):AV)
def AR:=λza zb=>((za,.tok 3 49 zb):Nat×Own)
def xP:=λza zb=>((AV.list 2 Bs ((0:Int),(0:Int)) za (.own zb)):AV)
def Z71:=λza zb zc=>(⟨[],[(20000,za)],(lg zb 20000),[(20000,.tok 1 37 zc)],[],[]⟩:Qe)
def Z72:=λza zb zc=>(⟨[],[(20000,za)],(WP zb 20000),[(20000,.tok 1 3 zc)],[],[]⟩:Qe)
def Z73:=λza zb=>(⟨[(30000,30000),(30001,30001),(37101,37101),(35002,35002),(35100,35100),(9100001,9100001)],[],(.bool za),zb,[],[]⟩:Qe)
def Ue:=λza zb=>((7,(.vsl za zb)):Nat×AV)
def Z75:=λza zb zc zd zf zg=>(⟨[(za,30000),(zb,37001),(zc,35000)],[(20000,zd)],(AV.list 1 Qi 0 zf (.own 20000)),zg,[],[]⟩:Qe)
def Ng:=λza zb zc=>((za,.tok 5 zb zc):Nat×Own)
def Z77:=λza zb=>(⟨[(30000,30000),(30001,30001),(37101,37101),(35002,35002),(35100,35100)],[],(.clo 83 [] [(.rpo za),(.rpo [(.int .i64 (4:Int))])]),zb,[],[30000,30001,37101,35002,35100]⟩:Qe)
def IH:=λza=>((.agg (PO za)):AV)
def Z79:=λza zb zc=>(⟨[(30000,30000),(30001,30001),(37101,37101),(35002,35002),(35100,35100),(9100001,9100001)],[],(.tuple [(f5 za),(Ax zb)]),zc,[],[30000,30001,37101,35002,35100,9100001]⟩:Qe)
def Z80:=λza zb zc zd zf zg=>(⟨[(za,30000),(zb,37001),(zc,35000)],[],(.tuple [(.agg (FY zd)),(Ax zf)]),zg,[],[]⟩:Qe)
def nG:=λza=>((za,.obj (.tab .i64 YE)):Nat×Own)
def Z82:=λza zb zc zd=>([(za,(AV.list 5 Py default zb .exact)),(zc,(AV.list 5 Py default (zd++zb) (.own 5003)))]:List YG)
def Z83:=λza zb zc=>(⟨[(30000,30000),(30001,30001),(37101,37101),(35002,35002),(35100,35100)],[],(.clo 82 [] [(.rpo za),(.rpo [(.clo zb za [])])]),zc,[],[30000,30001,37101,35002,35100]⟩:Qe)
def sA:=λza zb=>((AV.list 1 Lc [] za (.own zb)):AV)
def Oi:=λza zb=>((2,.row za zb):Nat×Own)
def Z86:=λza zb=>(⟨[(30000,30000),(30001,30001),(37101,37101),(35002,35002),(35100,35100),(9100001,9100001)],[],(Qh za),zb,[],[30000,30001,37101,35002,35100,9100001]⟩:Qe)
def Z87:=λza zb zc=>(⟨[(30000,30000),(30001,30001),(37101,37101),(35002,35002),(35100,35100)],[],(.clo 78 [] [(.rpo [(.clo za [] [])]),(.rpo zb)]),zc,[],[30000,30001,37101,35002,35100]⟩:Qe)
def jy:=λza zb=>([(lg za 20000),(Ax zb)]:List AV)
def Z89:=λza zb zc zd zf zg zm zn zp=>(⟨[(4,(AV.list 1 Dd 0 ([]:Am) (.own 6004))),(5,(Ax za))],[(6004,.tok 1 37 (([]:Am).length)),(YM zb zc zd),(KM 30001 35100 zf zg 37101),(YK 35002 zm),(FV 35100 zn),(AR 37101 zp),(nG 9100001)],[]⟩:St)
def Z90:=λza zb zc zd zf zg=>((1,.row 51 [(Ax za),(Ax zb),(Ax zc),(Ax zd),(Rp zf),(Qh zg)]):Nat×Own)
def Z91:=λza zb=>(⟨[(30000,30000),(30001,30001),(37101,37101),(35002,35002),(35100,35100),(9100001,9100001)],[],(Ax za),zb,[],[30000,30001,37101,35002,35100,9100001]⟩:Qe)
def Z92:=λza zb zc zd zf=>([(KM 30000 35000 za zb 37001),(AR 37001 zc),(FV 35000 zd),(20000,.tok 1 5 zf)]:List Uc)
def oD:=λza zb=>((7,.row 72 [za,(.vsl 77 zb)]):Nat×Own)
def nH:=((.int .i64 (5:Int)):AV)
def Z95:=λza (zb:List Aj) (zc:List Aj)=>((.slice 5 (bif za then zb.length else zc.length) (λi=>bif za then Jv (zb.getD i default) else Jv (zc.getD i default)) .none):AV)
def Z96:=λ(za:Am)=>((6,.arr 1 165 64 (λi=>Ay (za.getD i 0))):Nat×Own)
def XC:=λza=>((.agg (eTFunc za)):AV)
def nI:=((.int .i64 (3:Int)):AV)
def Z99:=λza zb zc zd zf zg zm zn zp=>(⟨[(30000,30000),(37006,37006),(9100005,9100005)],[],(.agg (QN za)),(z6 zb zc zd zf zg zm zn zp),[],[]⟩:Qe)
def PL:=λza=>((2,.row 72 [za,za]):Nat×Own)
def zo:=λza (zb:Am) (zc:Am)=>((.slice 1 (bif (za==true) then zb.length else zc.length) (λi=>bif (za==true) then Ay (zb.getD i 0) else Ay (zc.getD i 0)) .none):AV)
def tP:=λza zb zc zd zf zg zm zn=>(⟨[(30000,30000),(37006,37006)],[],(.bool za),(Z3 zb zc zd zf zg zm zn),[],[]⟩:Qe)
def Z103:=(⟨[(2,(AV.list 2 Bs ((0:Int),(0:Int)) ([]:List Hr) (.own 6002)))],[(6002,.tok 2 63 (([]:List Hr).length))],[]⟩:St)
def tQ:=λza zb zc zd zf=>([(KM 30000 35000 za zb 37001),(AR 37001 zc),(FV 35000 zd),(AR 20000 zf)]:List Uc)
def bS:=λza=>([(30000,.row 3 [(Ax za)])]:List Uc)
def RJ:=((6,(.vpt 6 64 0 0)):Nat×AV)
def zr:=λza zb=>(⟨[(30000,30000),(30001,30001),(37101,37101),(35002,35002),(35100,35100),(9100001,9100001)],[],(Ax za),zb,[],[]⟩:Qe)
def xI:=λ(za:List Hr)=>([(30,.arr 2 63 za.length (λi=>Bs (za.getD i ((0:Int),(0:Int)))))]:List Uc)
def dM:=λza zb zc=>((.int .i64 (bif za then zb else zc)):AV)
def C6:=λza zb=>((za,(Ax zb)):Nat×AV)
def RK:=((5,(.vpt 5 64 0 0)):Nat×AV)
def zu:=λza zb zc zd zf zg=>(⟨[(30000,30000),(30001,30001),(37101,37101),(35002,35002),(35100,35100),(9100001,9100001)],[],(.tuple []),(Z1 za zb zc zd zf zg),[],[]⟩:Qe)
def tR:=((AV.list 1 Lc [] ([]:Ey) .none):AV)
def xJ:=λza zb zc zd zf=>([(KM 30000 35000 za zb 37001),(AR 37001 zc),(FV 35000 zd),(20000,.tok 1 37 zf)]:List Uc)
def tX:=λza zb zc=>(⟨[],[],(.tuple [za,(Ax zb)]),(bif false then zc else[]),[],[]⟩:Qe)
def zw:=λza zb zc zd zf zg zm zn=>(⟨[(30000,30000),(30001,30001),(37101,37101),(35002,35002),(35100,35100),(9100001,9100001)],[],(.tuple [(f5 za),(Ax zb)]),(Z1 zc zd zf zg zm zn),[],[]⟩:Qe)
def xK:=λza zb zc zd zf zg zm zn zp=>(⟨[(30000,30000),(37006,37006),(9100005,9100005)],[],(.bool za),(z6 zb zc zd zf zg zm zn zp),[],[]⟩:Qe)
def PM:=λza=>((6,.arr 1 165 64 za):Nat×Own)
def n6:=λza=>(⟨[],[],(.agg (Bs za)),[],[],[]⟩:Qe)
def CA:=λza zb=>([(Qh za),(Qh zb)]:List AV)
def n7:=λza zb=>(⟨[],[],(.tuple (r9 za zb)),[],[],[]⟩:Qe)
def RL:=((.int .i64 (2:Int)):AV)
def RM:=λza=>((5,.arr 1 164 64 za):Nat×Own)
def tY:=λza zb=>(⟨[],[],(.tuple [(Ax za),(Ax zb)]),[],[],[]⟩:Qe)
def zx:=λza zb=>([(29,(AV.list 3 Fs default za .exact)),(30,(AV.list 3 Fs default (zb++za) (.own 37001)))]:List YG)
def n8:=λza zb zc zd=>((37,.arr 1 93 za (E0 zb zc 0 [(.vsl 46 zd)])):Nat×Own)
def xL:=λza zb zc zd zf zg zm zn=>(⟨[(za,30000),(zb,37001),(zc,35000)],[],(.tuple [(.agg (FY zd)),(Ax zf)]),(Z5 zg zm zn),[],[]⟩:Qe)
def bT:=((.int .i64 (8:Int)):AV)
def n9:=λza zb zc=>(⟨[(4,(WP za zb))],[(zb,.tok 1 3 zc)],[]⟩:St)
def tZ:=λza=>((.clo 83 [] [(.rpo Y7),(.rpo [(Ax za)])]):AV)
def PN:=((5,(.ptr 5 0)):Nat×AV)
def xM:=λza zb=>(⟨[(30000,30000),(37006,37006)],[],(Ax za),zb,[],[]⟩:Qe)
def xN:=((AV.list 3 Fs default ([]:List Ad) .exact):AV)
def zy:=λ(za:Am) (zb:Am)=>((.bool (((V6 za.length (λi=>Qi (za.getD i 0))):Am)==(V6 zb.length (λi=>Qi (zb.getD i 0))))):AV)
def Ha:=λza=>((.ptr za 0):AV)
def oA:=λza zb zc=>(⟨[(4,(.vsl za zb))],[(AQ za zc)],[]⟩:St)
def gf:=λza zb=>((AV.list 1 Qi 0 za (.own zb)):AV)
def gh:=λza=>((AV.list 1 Qi 0 za .none):AV)

def Q3:AV:=(AV.list 1 Qi 0 ([]:Am) .exact)
def Q4:=(⟨[(2,(.vsl 36002 ([]:Am).length))],[(36002,.arr 1 5 (([]:Am).length) (λi=>Qi (([]:Am).getD i 0)))],[]⟩:St)
def Cy(aY:Am):Option Am:=
 (Aw (aY.length<=room) (some aY))
variable{v0:Am}{v1:Am}
theorem Mt(h:Cy v0=some v1):sP 25 [(gh v0)] [] (.vsl 20000 v1.length) [(FV 20000 v1)]:=by
 refine MA mix Tryz.func25 (λΓ hq=>?_);unfold Cy at h;refine gR hq [0] [] [(2,Q3)] [] (c1 (Bh 1 Qi (0:Int))) ?_;refine Ae hq Wn [] ?_;refine Aaj true v0.length (λhb=>?_) (λhb=>?_)
 ·replace h:=ph (some ([]:Am)) (λ(l2:Am)=>(Aw (l2.length<=room) (some l2))) h (hb rfl) rfl (λh0=>by first|exact h0|simpa [Aw,room] using h0);clear hb;refine gR hq [2] [] [(2,Q3)] [] (c1 (Bh 1 Qi (0:Int))) ?_;refine Ox (⟨[(2,Q3)],[],[]⟩:St) ?_;cases h;exact gK (e:=.ret) (Ht [(36002,20000)] (show Le Γ _ Q4 from Le.trans (Bk (st':=⟨[(2,Q3)],[],[]⟩) [2] [] hq) (Le.trans (pT (t:=2) (nm:=36002) (sz':=1) (λi=>Qi (([]:Am).getD i 0)) 5 rfl rfl) (Bk (st':=Q4) [2] [36002] hq))))
 ·clear hb;obtain⟨hc1,h⟩:=Uq h;refine gR hq [2] [7] [(5,Q3),(7,.vsl 7 0)] [] (ci (show(AVle (.slice 1 0 (λi=>([]:List (List AV)).getD i []) .exact) Q3) from gw rfl (λi hi=>absurd hi (Xi i))) (c1 hc1)) ?_;obtain rfl:=OI h;exact Bi [(7,20000)]
def Q6(x1:Am):List AV:=[(.vsl 8 x1.length),xN]
def Q7(x1:Am):=(⟨[(2,(.ptr 10 0)),(3,Px)],[(8,.arr 1 5 x1.length (λi=>Qi (x1.getD i 0))),(10,.row 79 (Q6 x1))],[]⟩:St)
def Q5(x1:Am):=(⟨[(2,(.ptr 10 0)),(3,Px)],[(8,.arr 1 5 x1.length (λi=>Qi (x1.getD i 0))),(10,.row 79 [(.vsl 8 x1.length),(AV.list 3 Fs default ([]:List Ad) (.own 6102001))]),(6102001,.tok 3 49 (([]:List Ad).length))],[]⟩:St)
abbrev ya:=((Bool×xH)×Int)
def P1(aE:Am):Option ya:=
 (bif (decide ((4096:Int)<(aE.length:Int))) then(some ((false,(default:xH)),(4:Int))) else((Cy aE).bind λx1=>(some ((true,(⟨x1,([]:List Ad)⟩:xH)),(0:Int)))))
variable{v2:ya}
theorem K9(h:P1 v0=some v2):sP 8 [(gh v0)] [] (.tuple [(bif v2.1.1 then((Ha 20000):AV) else .nilp),(Ax v2.2)]) (bif v2.1.1 then(Z9 20000 21000 v2.1.2.bytes v2.1.2.trace 21001 v2.1.2.trace.length) else[]):=
 sG Tryz.func8 λΓ q=>tW q [0] [] [0,6] [] (gC h (λh=>Ae q B7 [] (tS h (Bi []))) λh=>tB h λx1 y1 h=>gR q B7 [8,10] [(9,(.agg (Q6 x1)))] [⟨[],[(20000,8)],(.vsl 20000 x1.length),[(FV 20000 x1)],[],[]⟩] (c2 (Mt y1) (show(AVle (.agg [(.vsl 8 x1.length),dO]) (.agg (Q6 x1))) from(AVle.agg (.cons (AVle.refl _) (.cons He .nil))))) (Ox (Q7 x1) (tS h (gK (e:=.ret) (Ht [(10,20000),(8,21000),(6102001,21001)] (show Le Γ _ (Q5 x1) from Le.trans (Bk (st':=(Q7 x1)) B7 [8,10] q) (Le.trans (NT (r:=10) (j:=1) (nm:=6102001) (sz':=3) (λi=>Fs (([]:List Ad).getD i default)) 49 rfl rfl (nl rfl) rfl (.inl ⟨rfl,rfl⟩) (λh_=>absurd h_ (by decide))) (Bk (st':=(Q5 x1)) B7 [8,10,6102001] q))))))))
abbrev sJ:=(LR (Int×Int) Int)
def Qr(a1:TFunc):Hr->Option sJ:=
 λ((i1,i2):Hr)=>(bif (decide (i2<(a1.Blocks.length:Int))) then(Aw (A0 i2 a1.Blocks.length) (some (.next ((w64 (i1+(w64 ((((a1.Blocks.getD i2.toNat default).Phis).length:Int)+(((a1.Blocks.getD i2.toNat default).Ops).length:Int))))),(w64 (i2+1)))))) else(some (.done i1)))
def Vo(a1:TFunc):Option Int:=
 ((Ac (Qr a1) ((a1.Blocks.length:Int),(0:Int))).bind (λx5=>(some x5)))
variable{v3:TFunc}{v4:Int}
theorem cA(h:Vo v3=some v4):sP 110 [(XC v3)] [] (.int .i64 v4) []:=
 sG Tryz.func110 λΓ q=>tW q [1] [1] Mz [1] (Ae q cg [] (tL q h cg [] (λu (i1,i2)=>(Cs u [(3,(Ax i1)),(C6 12 i2)] [])) (λu i3=>aG Γ (.exit 0) (⟨[(3,(Ax i3))],[],[]⟩:St)) (λ⟨i1,i2⟩ y h=>Ae q [3,10,11,12,13] [] (gC h (λh=>tV q [3,5,10,11,12] [5] h λh=>tW q cg [] cg [] (tN h)) λh=>tS h (gO (Bd (Bk [3] [] q))))) λx5 h=>gA (Ae q [2] [] (tS h (Bi [])))))
def Ko(aJ:Am):Int->Option (LR Int (Unit ⊕ Bool)):=
 λ(i1:Int)=>(bif (decide (i1<(aJ.length:Int))) then(Aw (A0 i1 aJ.length) (bif (bif (decide ((aJ.getD i1.toNat 0)<0)) then true else(decide ((2147483647:Int)<(aJ.getD i1.toNat 0)))) then(some (.done (.inr false))) else(some (.next (w64 (i1+1)))))) else(some (.done (.inl ()))))
def IE(Γ:Il)(aJ:Am)(r:Bool):Exit->St->Prop:=fK Tryz.prog Γ Tryz.f111.results.toList [] (.bool r) []
def D5(aJ:Am):Option Bool:=
 ((Ac (Ko aJ) (0:Int)).bind (λx3=>(match x3 with|(.inl _)=>(some true)|(.inr r5)=>(some r5))))
variable{v5:Bool}
theorem Hy(h:D5 v0=some v5):sP 111 [(Rp v0)] [] (.bool v5) []:=
 sG Tryz.func111 λΓ q=>tW q [0] [] [5,6,7] [] (tL q h [5,6,7] [] (λu i1=>(Cs u [(7,(Ax i1))] [])) (λu x_=>match x_ with|(.inl _)=>aG Γ (.exit 0) (⟨[],[],[]⟩:St)|(.inr r_)=>aR (IE Γ v0 r_)) (λi1 y h=>Ae q [5,6,7,8] [] (gC h (λh=>tV q [4,5,6,7] [] h λh=>tU q [5,6,7,16] [] (c2 (gI ((decide ((v0.getD i1.toNat 0)<0))==false)) (Ld (decide ((v0.getD i1.toNat 0)<0)))) (gC h (λh=>Ae q [2] [] (tS h (gO (Lj (Ht [] (Le.refl _ _)))))) λh=>Ae q [5,6,7] [] (tN h))) λh=>tS h (gO (Bd (Bk [] [] q))))) λx3 h=>(match x3,h with | .inl _,h=>gA (Ae q [2] [] (tS h (Bi []))) | .inr r5,h=>Pz (λst' hk=>tS h (gK hk))))
def I8(aJ:Am):Option Bool:=
 ((bif ((decide ((aJ.length:Int)<=64))==true) then D5 aJ else some false).bind λx1=>(some (bif (decide ((aJ.length:Int)<=64)) then x1 else false)))
theorem Oc(h:I8 v0=some v5):sP 166 [(Rp v0)] [] (.bool v5) []:=
 sG Tryz.func166 λΓ q=>Ae q [0] [] (tB h λx1 y1 h=>tT q [2] [] [(Z8 x1)] (c3 (gI ((decide ((v0.length:Int)<=64))==true)) (λ(hg:((decide ((v0.length:Int)<=64))==true)=true)=>(Hy (B0 hg y1))) (L0 (decide ((v0.length:Int)<=64)))) (tS h (Bi [])))
def Qt(aa9:Fe):Option Bool:=
 ((D5 ([aa9.Bits,aa9.Dst]:Am)).bind λx1=>((bif (x1==true) then I8 aa9.From else some false).bind λx2=>((bif ((bif x1 then x2 else false)==true) then I8 aa9.Args else some false).bind λx3=>(some (bif (bif x1 then x2 else false) then x3 else false)))))
variable{v6:Fe}
theorem PQ(h:Qt v6=some v5):sP 151 [(.agg (Wx v6))] [] (.bool v5) []:=
 sG Tryz.func151 λΓ q=>Ae q [1] [1] (tB h λx1 y1 h=>tB h λx2 y2 h=>tB h λx3 y3 h=>gR q [2] [] [(7,(AV.list 1 Ay 0 ([v6.Bits,v6.Dst]:Am) .exact))] [(Z8 x1),(Z8 x2),(Z8 x3)] (SB (Ca 1 Ay (0:Int) ([v6.Bits,v6.Dst]:Am)) (Hy y1) (Lz (x1==true) (SB (λ(hg:(x1==true)=true)=>(Oc (B0 hg y2))) (L0 x1) (Lz ((bif x1 then x2 else false)==true) (c2 (λ(hg:((bif x1 then x2 else false)==true)=true)=>(Oc (B0 hg y3))) (L0 (bif x1 then x2 else false))))))) (tS h (Bi [])))
def H1(aJ:List Fe):Int->Option (LR Int (Unit ⊕ Bool)):=
 λ(i1:Int)=>(bif (decide (i1<(aJ.length:Int))) then(Aw (A0 i1 aJ.length) ((Qt (aJ.getD i1.toNat default)).bind λx3=>(bif (!x3) then(some (.done (.inr false))) else(some (.next (w64 (i1+1))))))) else(some (.done (.inl ()))))
def Zx(Γ:Il)(aJ:List Fe)(r:Bool):Exit->St->Prop:=fK Tryz.prog Γ Tryz.f150.results.toList [] (.bool r) []
def Jz(aJ:List Fe):Option Bool:=
 ((Ac (H1 aJ) (0:Int)).bind (λx4=>(match x4 with|(.inl _)=>(some true)|(.inr r6)=>(some r6))))
variable{v7:List Fe}
theorem Yj(h:Jz v7=some v5):sP 150 [(AV.list 4 Wx default v7 .none),(.clo 151 [] [])] [] (.bool v5) []:=
 sG Tryz.func150 λΓ q=>tW q E6 [] Nd [] (tL q h Nd [] (λu i1=>(Cs u [(9,(Ax i1))] [])) (λu x_=>match x_ with|(.inl _)=>aG Γ (.exit 0) (⟨[],[],[]⟩:St)|(.inr r_)=>aR (Zx Γ v7 r_)) (λi1 y h=>Ae q PC [] (gC h (λh=>tV q PD [6] h λh=>tB h λx3 y3 h=>tT q WN [] [(Z8 x3)] (c1 (PQ y3)) (gC h (λh=>Ae q [4] [] (tS h (gO (Lj (Ht [] (Le.refl _ _)))))) λh=>Ae q Nd [] (tN h))) λh=>tS h (gO (Bd (Bk [] [] q))))) λx4 h=>(match x4,h with | .inl _,h=>gA (Ae q [4] [] (tS h (Bi []))) | .inr r6,h=>Pz (λst' hk=>tS h (gK hk))))
def Sr(a0:C5):Option Bool:=
 ((D5 ([a0.Kind,a0.Bits,a0.Lanes,a0.Dst]:Am)).bind λx1=>((bif (x1==true) then I8 a0.Args else some false).bind λx2=>(some (bif x1 then x2 else false))))
variable{v8:C5}
theorem TH(h:Sr v8=some v5):sP 153 [(IH v8)] [] (.bool v5) []:=
 sG Tryz.func153 λΓ q=>Ae q [1] [1] (tB h λx1 y1 h=>tB h λx2 y2 h=>gR q [2] [] [(11,(AV.list 1 Ay 0 ([v8.Kind,v8.Bits,v8.Lanes,v8.Dst]:Am) .exact))] [(Z8 x1),(Z8 x2)] (SB (Ca 1 Ay (0:Int) ([v8.Kind,v8.Bits,v8.Lanes,v8.Dst]:Am)) (Hy y1) (Lz (x1==true) (c2 (λ(hg:(x1==true)=true)=>(Oc (B0 hg y2))) (L0 x1)))) (tS h (Bi [])))
def Ir(aJ:List C5):Int->Option (LR Int (Unit ⊕ Bool)):=
 λ(i1:Int)=>(bif (decide (i1<(aJ.length:Int))) then(Aw (A0 i1 aJ.length) ((Sr (aJ.getD i1.toNat default)).bind λx3=>(bif (!x3) then(some (.done (.inr false))) else(some (.next (w64 (i1+1))))))) else(some (.done (.inl ()))))
def BO(Γ:Il)(aJ:List C5)(r:Bool):Exit->St->Prop:=fK Tryz.prog Γ Tryz.f152.results.toList [] (.bool r) []
def Kn(aJ:List C5):Option Bool:=
 ((Ac (Ir aJ) (0:Int)).bind (λx4=>(match x4 with|(.inl _)=>(some true)|(.inr r6)=>(some r6))))
variable{v9:List C5}
theorem AZ(h:Kn v9=some v5):sP 152 [(AV.list 6 PO default v9 .none),(.clo 153 [] [])] [] (.bool v5) []:=
 sG Tryz.func152 λΓ q=>tW q E6 [] Nd [] (tL q h Nd [] (λu i1=>(Cs u [(9,(Ax i1))] [])) (λu x_=>match x_ with|(.inl _)=>aG Γ (.exit 0) (⟨[],[],[]⟩:St)|(.inr r_)=>aR (BO Γ v9 r_)) (λi1 y h=>Ae q PC [] (gC h (λh=>tV q PD [6] h λh=>tB h λx3 y3 h=>tT q WN [] [(Z8 x3)] (c1 (TH y3)) (gC h (λh=>Ae q [4] [] (tS h (gO (Lj (Ht [] (Le.refl _ _)))))) λh=>Ae q Nd [] (tN h))) λh=>tS h (gO (Bd (Bk [] [] q))))) λx4 h=>(match x4,h with | .inl _,h=>gA (Ae q [4] [] (tS h (Bi []))) | .inr r6,h=>Pz (λst' hk=>tS h (gK hk))))
def Qs(aL:L8):Option Bool:=
 ((D5 ([aL.Kind,aL.Arg]:Am)).bind λx1=>((bif (x1==true) then I8 aL.To else some false).bind λx2=>(some (bif x1 then x2 else false))))
variable{v10:L8}
theorem PP(h:Qs v10=some v5):sP 154 [(.agg (du v10))] [] (.bool v5) []:=
 sG Tryz.func154 λΓ q=>Ae q [1] [1] (tB h λx1 y1 h=>tB h λx2 y2 h=>gR q [2] [] [(7,(AV.list 1 Ay 0 ([v10.Kind,v10.Arg]:Am) .exact))] [(Z8 x1),(Z8 x2)] (SB (Ca 1 Ay (0:Int) ([v10.Kind,v10.Arg]:Am)) (Hy y1) (Lz (x1==true) (c2 (λ(hg:(x1==true)=true)=>(Oc (B0 hg y2))) (L0 x1)))) (tS h (Bi [])))
def N9(aS:Aj):Option Bool:=
 ((Jz aS.Phis).bind λx1=>((bif (x1==true) then Kn aS.Ops else some false).bind λx2=>((bif ((bif x1 then x2 else false)==true) then Qs (⟨aS.End.Kind,aS.End.Arg,aS.End.To⟩:L8) else some false).bind λx3=>(some (bif (bif x1 then x2 else false) then x3 else false)))))
variable{v11:Aj}
theorem JM(h:N9 v11=some v5):sP 113 [(.agg (Jv v11))] [] (.bool v5) []:=
 sG Tryz.func113 λΓ q=>Ae q [1] [1] (tB h λx1 y1 h=>tB h λx2 y2 h=>tB h λx3 y3 h=>tT q [2] [] [(Z8 x1),(Z8 x2),(Z8 x3)] (ci (Yj y1) (Lz (x1==true) (SB (λ(hg:(x1==true)=true)=>(AZ (B0 hg y2))) (L0 x1) (Lz ((bif x1 then x2 else false)==true) (c2 (λ(hg:((bif x1 then x2 else false)==true)=true)=>(PP (B0 hg y3))) (L0 (bif x1 then x2 else false))))))) (tS h (Bi [])))
def Gw(aJ:List Aj):Int->Option (LR Int (Unit ⊕ Bool)):=
 λ(i1:Int)=>(bif (decide (i1<(aJ.length:Int))) then(Aw (A0 i1 aJ.length) ((N9 (aJ.getD i1.toNat default)).bind λx3=>(bif (!x3) then(some (.done (.inr false))) else(some (.next (w64 (i1+1))))))) else(some (.done (.inl ()))))
def Wt(Γ:Il)(aJ:List Aj)(r:Bool):Exit->St->Prop:=fK Tryz.prog Γ Tryz.f112.results.toList [] (.bool r) []
def Iq(aJ:List Aj):Option Bool:=
 ((Ac (Gw aJ) (0:Int)).bind (λx4=>(match x4 with|(.inl _)=>(some true)|(.inr r6)=>(some r6))))
variable{v12:List Aj}
theorem Wg(h:Iq v12=some v5):sP 112 [(YL v12),(.clo 113 [] [])] [] (.bool v5) []:=
 sG Tryz.func112 λΓ q=>tW q E6 [] Nd [] (tL q h Nd [] (λu i1=>(Cs u [(9,(Ax i1))] [])) (λu x_=>match x_ with|(.inl _)=>aG Γ (.exit 0) (⟨[],[],[]⟩:St)|(.inr r_)=>aR (Wt Γ v12 r_)) (λi1 y h=>Ae q PC [] (gC h (λh=>tV q PD [6] h λh=>tB h λx3 y3 h=>tT q WN [] [(Z8 x3)] (c1 (JM y3)) (gC h (λh=>Ae q [4] [] (tS h (gO (Lj (Ht [] (Le.refl _ _)))))) λh=>Ae q Nd [] (tN h))) λh=>tS h (gO (Bd (Bk [] [] q))))) λx4 h=>(match x4,h with | .inl _,h=>gA (Ae q [4] [] (tS h (Bi []))) | .inr r6,h=>Pz (λst' hk=>tS h (gK hk))))
def Q9(a1:TFunc):=(decide ((a1.Blocks.length:Int)<1))
def Q8(a1:TFunc):=(decide ((16:Int)<(a1.Params.length:Int)))
def Ya(a1:TFunc):Option Bool:=
 (bif (bif (decide ((a1.Blocks.length:Int)<1)) then true else(decide ((64:Int)<(a1.Blocks.length:Int)))) then(some false) else((bif ((decide ((16:Int)<(a1.Params.length:Int)))==false) then Vo a1 else some (0:Int)).bind λx1=>(bif (bif (decide ((16:Int)<(a1.Params.length:Int))) then true else(decide ((512:Int)<x1))) then(some false) else((D5 a1.Params).bind λx2=>((bif (x2==true) then D5 ([a1.Ret]:Am) else some false).bind λx3=>((bif ((bif x2 then x3 else false)==true) then Iq a1.Blocks else some false).bind λx4=>(some (bif (bif x2 then x3 else false) then x4 else false))))))))
theorem et(h:Ya v3=some v5):sP 88 [(XC v3)] [] (.bool v5) []:=
 sG Tryz.func88 λΓ q=>Ae q [1] [1] (tU q [1,12] [1] (Za ((Q9 v3)==false) (c1 (Ld (Q9 v3)))) (gC h (λh=>Ae q [2] [] (tS h (Bi []))) λh=>tB h λx1 y1 h=>tT q [1,21] [1] [(XA x1)] (c4 (gI ((Q8 v3)==false)) (λ(hg:((Q8 v3)==false)=true)=>(cA (B0 hg y1))) (gI ((Q8 v3)==false)) (Ld (Q8 v3))) (gC h (λh=>Ae q [2] [] (tS h (Bi []))) λh=>tB h λx2 y2 h=>tB h λx3 y3 h=>tB h λx4 y4 h=>gR q [2] [] [(28,(tc v3.Ret))] [(Z8 x2),(Z8 x3),(Z8 x4)] (ci (Hy y2) (Lz (x2==true) (SC (show((x2==true)=true->(AVle (.slice 1 1 (λi=>([[(Ax v3.Ret)]]:List (List AV)).getD i []) .exact) (tc v3.Ret))) from(λhg=>@(Ca 1 Ay (0:Int) ([v3.Ret]:Am)))) (gI (x2==true)) (λ(hg:(x2==true)=true)=>(Hy (B0 hg y3))) (L0 x2) (Lz ((bif x2 then x3 else false)==true) (c2 (λ(hg:((bif x2 then x3 else false)==true)=true)=>(Wg (B0 hg y4))) (L0 (bif x2 then x3 else false))))))) (tS h (Bi [])))))
def Np(aaI:Bool)(aL:Int):Option Int:=
 (bif aaI then(some (0:Int)) else(some aL))
variable{v13:Int}
theorem Zg(h:Np v5 v4=some v13):sP 87 [(.bool v5),(Ax v4)] [] (.int .i64 v13) []:=
 sG Tryz.func87 λΓ q=>tW q E6 [] [1,5] [] (gC h (λh=>Ae q [4] [] (tS h (Bi []))) λh=>Ae q [4] [] (tS h (Bi [])))
abbrev m9:=(Int×TFunc×Int×Am×List Bj)
def Kl(a6:TFunc)(aB:Int)(a2:Am)(a3:List Bj):Option m9:=
 ((Ya a6).bind λx1=>((Np x1 (4:Int)).bind λx2=>(some (x2,a6,aB,a2,a3))))
variable{v14:List Bj}{v15:m9}
theorem AX(h:Kl v3 v4 v0 v14=some v15):sP 71 Y7 (Z3 v3.Params v3.Ret v3.Blocks v4 v0 v14 v14.length) (Ax v15.1) (Z3 v15.2.1.Params v15.2.1.Ret v15.2.1.Blocks v15.2.2.1 v15.2.2.2.1 v15.2.2.2.2 v15.2.2.2.2.length):=
 sG Tryz.func71 λΓ q=>Ae q [0] D4 (tB h λx1 y1 h=>tB h λx2 y2 h=>tT q [2] D4 [(Z8 x1),(XA x2)] (c2 (et y1) (Zg y2)) (tS h (Bi Zs)))
def Mq(aO:Int):Option Bool:=
 (some (bif (decide ((1:Int)<=aO)) then(decide (aO<=64)) else false))
theorem W8(h:Mq v4=some v5):sP 114 [(Ax v4)] [] (.bool v5) []:=
 sG Tryz.func114 λΓ q=>Ae q [0] [] (tU q [2] [] (c2 (gI ((decide ((1:Int)<=v4))==true)) (L0 (decide ((1:Int)<=v4)))) (tS h (Bi [])))
def Ke(aN:Int)(aO:Int):Option Bool:=
 (some (bif (decide ((0:Int)<=aN)) then(decide (aN<aO)) else false))
theorem R9(h:Ke v4 v13=some v5):sP 119 [(Ax v4),(Ax v13)] [] (.bool v5) []:=
 sG Tryz.func119 λΓ q=>Ae q E6 [] (tU q [4] [] (Lz ((decide ((0:Int)<=v4))==true) (c1 (L0 (decide ((0:Int)<=v4))))) (tS h (Bi [])))
def Fz(aL:L8)(aO:Int):Int->Option (LR Int (Unit ⊕ Bool)):=
 λ(i7:Int)=>(bif (decide (i7<(aL.To.length:Int))) then(Aw (A0 i7 aL.To.length) ((bif (((aL.To.getD i7.toNat 0)==0)==false) then Ke (aL.To.getD i7.toNat 0) aO else some false).bind λx9=>(bif (bif ((aL.To.getD i7.toNat 0)==0) then true else(!x9)) then(some (.done (.inr false))) else(some (.next (w64 (i7+1))))))) else(some (.done (.inl ()))))
def Y5(Γ:Il)(aL:L8)(aO:Int)(r:Bool):Exit->St->Prop:=fK Tryz.prog Γ Tryz.f115.results.toList [] (.bool r) []
def Q10(aL:L8)(i7:Int):=((aL.To.getD i7.toNat 0)==0)
def Pn(aL:L8)(aO:Int):Option Bool:=
 (Option.bind (α:=(Int ⊕ Bool)) (Option.bind (α:=Bool) (bif (aL.Kind==0) then(some (aL.Kind==0)) else(some (aL.Kind==3))) (λx3=>(bif x3 then(some (.inl (0:Int))) else(bif (aL.Kind==1) then(some (.inl (1:Int))) else(bif (aL.Kind==2) then(some (.inl (2:Int))) else(some (.inr false))))))) (λx5=>(match x5 with|(.inl i1)=>(bif ((aL.To.length:Int)!=i1) then(some false) else((Ac (Fz aL aO) (0:Int)).bind (λx10=>(match x10 with|(.inl _)=>(some true)|(.inr r12)=>(some r12)))))|(.inr r13)=>(some r13))))
theorem LP(h:Pn v10 v4=some v5):sP 115 [(.agg (du v10)),(Ax v4)] [] (.bool v5) []:=
 sG Tryz.func115 λΓ q=>tW q Pe [2] Wl [2] (tB h λx5 y5 h=>gJ y5 (λx_=>match x_ with|(.inl i1)=>aG Γ .normal (⟨[(1,(Ax v4)),Tz,(5,(Ax i1))],[(2,.row 54 [(Ax v10.Kind),(Ax v10.Arg),(Rp v10.To)])],[]⟩:St)|(.inr r_)=>aR (Y5 Γ v10 v4 r_)) (λy h=>Ae q [1,2,5,9] [2] (tB h λx3 y3 h=>gJ y3 (λb2=>aG Γ .normal (⟨[(1,(Ax v4)),Tz,(5,Px),(9,(Ax v10.Kind)),(10,(.bool b2))],[(2,.row 54 [(Ax v10.Kind),(Ax v10.Arg),(Rp v10.To)])],[]⟩:St)) (λy h=>Ae q [1,2,5,9,10] [2] (gC h (λh=>tS h (gK (Bd Jh))) λh=>Ae q [1,2,5,9,10] [2] (tS h (gK (Bd Jh))))) (gA (gC h (λh=>tS h (gK (Bd (Bk Wl [2] q)))) λh=>Ae q [1,2,9,13] [2] (gC h (λh=>Ae q Wl [2] (tS h (gK (Bd Jh)))) λh=>Ae q [1,2,15] [2] (gC h (λh=>Ae q Wl [2] (tS h (gK (Bd Jh)))) λh=>Ae q [4] [] (tS h (gK (Lj (Ht [] (Le.refl _ _))))))))))) (match x5,h with | .inl i1,h=>gA (Ae q [1,2,21] [2] (gC h (λh=>Ae q [4] [] (tS h (Bi []))) λh=>Ae q jg [] (tL q h jg [] (λu i7=>(Cs u [(C6 25 i7)] [])) (λu x_=>match x_ with|(.inl _)=>aG Γ (.exit 1) (⟨[],[],[]⟩:St)|(.inr r_)=>aR (Y5 Γ v10 v4 r_)) (λi7 y h=>Ae q [1,23,24,25,26] [] (gC h (λh=>tV q [1,7,23,24,25] [] h λh=>tB h λx9 y9 h=>tT q [1,23,24,25,36] [] [(Z8 x9)] (Lz ((Q10 v10 i7)==false) (c3 (λ(hg:((Q10 v10 i7)==false)=true)=>(R9 (B0 hg y9))) (gI ((Q10 v10 i7)==false)) (Ld (Q10 v10 i7)))) (gC h (λh=>Ae q [4] [] (tS h (gO (Lj (Ht [] (Le.refl _ _)))))) λh=>Ae q jg [] (tN h))) λh=>tS h (gO (Bd (Bk [] [] q))))) λx10 h=>(match x10,h with | .inl _,h=>gA (Ae q [4] [] (tS h (Bi []))) | .inr r12,h=>Pz (λst' hk=>tS h (gK hk)))))) | .inr r13,h=>Pz (λst' hk=>tS h (gK hk))))
abbrev cx:=(Int×Ey)
abbrev wS:=(LR (Int×Ey) Ey)
def Gy(aA:Ey)(i2:Int):cx->Option wS:=
 λ((i6,l7):cx)=>(bif (decide (i6<((aA.getD i2.toNat []).length:Int))) then(Aw (A0 i6 (aA.getD i2.toNat []).length) (Aw (A0 ((aA.getD i2.toNat []).getD i6.toNat 0) l7.length) (Aw (A0 ((aA.getD i2.toNat []).getD i6.toNat 0) l7.length) (Aw ((l7.getD ((aA.getD i2.toNat []).getD i6.toNat 0).toNat []).length+([i2]:Am).length<=room) (Aw (A0 ((aA.getD i2.toNat []).getD i6.toNat 0) l7.length) (some (.next ((w64 (i6+1)),(l7.set ((aA.getD i2.toNat []).getD i6.toNat 0).toNat ((l7.getD ((aA.getD i2.toNat []).getD i6.toNat 0).toNat [])++([i2]:Am))))))))))) else(some (.done l7)))
def Gz(aA:Ey):cx->Option wS:=
 λ((i2,l3):cx)=>(bif (decide (i2<(aA.length:Int))) then(Aw (A0 i2 aA.length) ((Ac (Gy aA i2) ((0:Int),l3)).bind (λx14=>(some (.next ((w64 (i2+1)),x14)))))) else(some (.done l3)))
def sV(i2:Int):=([i2]:Am)
def nD(aA:Ey)(i2:Int)(i6:Int):=((aA.getD i2.toNat []).getD i6.toNat 0)
def na(l7:Ey)(aA:Ey)(i2:Int)(i6:Int):=(l7.getD (nD aA i2 i6).toNat [])
def we(aA:Ey):=(List.replicate (aA.length:Int).toNat ([]:Am))
def zE(l7:Ey)(aA:Ey)(i2:Int)(i6:Int):=(l7.set (nD aA i2 i6).toNat ((na l7 aA i2 i6)++(sV i2)))
def Q14(aA:Ey):List YG:=[(0,(WQ aA)),(3,(.vsl 10 (aA.length:Int).toNat))]
def Q13(l7:Ey)(i2:Int)(aA:Ey)(i6:Int):List YG:=[(3,(.vsl 10 l7.length)),(4,(Ax i2)),(11,(WQ aA)),(12,(Vc aA.length)),(C6 13 i2),(18,(AV.list 1 Ay 0 (aA.getD i2.toNat []) .none)),(19,(.int .i64 ((aA.getD i2.toNat []).length:Int))),(C6 20 i6)]
def Q17(l7:Ey)(i2:Int)(aA:Ey)(i6:Int):List YG:=[(3,(.vsl 10 l7.length)),(4,(Ax i2)),(7,(Ax (nD aA i2 i6))),(11,(WQ aA)),(12,(Vc aA.length)),(C6 13 i2),(18,(AV.list 1 Ay 0 (aA.getD i2.toNat []) .none)),(19,(.int .i64 ((aA.getD i2.toNat []).length:Int))),(C6 20 i6)]
def Nr(aA:Ey):Option Ey:=
 (Aw (0<=(aA.length:Int)/\(aA.length:Int)<=(aA.length:Int)/\(aA.length:Int)<=(room:Int)) ((Ac (Gz aA) ((0:Int),(List.replicate (aA.length:Int).toNat ([]:Am)))).bind (λx16=>(some x16))))
variable{v16:Ey}{v17:Ey}
theorem Zi(h:Nr v16=some v17):sP 117 [(WQ v16)] [] (sA v17 20000) [(20000,.tok 1 22 v17.length)]:=
 sG Tryz.func117 λΓ q=>have hΓ:=q.own;gR q [0] [] [(2,yl)] [] (c1 (Bh 1 Lc [])) (tV q Ou [10] h λh=>Ox (⟨(Q14 v16),[(10,.arr 1 22 ((v16.length:Int).toNat) (λi_=>AV.eraseAll (λn_=>B3 n_ [10]) ((λ_=>[dO]) i_)))],[]⟩:St) (M4 (Le.trans (J8 (st':=⟨(Q14 v16),[(10,.arr 1 22 ((v16.length:Int).toNat) (Oy 1 Ay (0:Int) (we v16) (λ_=>.exact)))],[]⟩) (TmpsLe.refl _) (.arr d6 .nil)) (Le.trans (Le.trans (eF (r:=10) (b:=70010) Ay (0:Int) (we v16) 3 rfl rfl (K1 ..).symm (λh_=>absurd h_ (by decide))) (Ib (st':=⟨(Q14 v16),[(10,.arr 1 22 ((v16.length:Int).toNat) (Oy 1 Ay (0:Int) (we v16) (Tag.fam 70010)))],[(70010,⟨1,3,Nj (we v16)⟩)]⟩) (by kernel_rfl))) (Ib (Bx (λk_:Nat=>(⟨[(0,(WQ v16)),(3,(.vsl 10 k_))],[(dN 10 k_ (we v16) 70010)],[(70010,⟨1,3,Nj (we v16)⟩)]⟩:St)) (show(v16.length:Int).toNat=(we v16).length from(K1 ..).symm))))) (Ae q VR V5 (tL q h VR V5 (λu (i2,l3)=>(Cs u [(3,(.vsl 10 l3.length)),(C6 13 i2)] [(dN 10 l3.length l3 70010)] [(70010,⟨1,3,Nj l3⟩)])) (λu l4=>aG Γ (.exit 0) (⟨[(3,(.vsl 10 l4.length))],[(dN 10 l4.length l4 70010)],[(70010,⟨1,3,Nj l4⟩)]⟩:St)) (λ⟨i2,l3⟩ y h=>Ae q [3,11,12,13,14] V5 (gC h (λh=>tV q [3,4,5,11,12,13] V5 h λh=>Ae q k8 V5 (tL q h k8 V5 (λu (i6,l7)=>(Cs u [(3,(.vsl 10 l7.length)),(C6 20 i6)] [(dN 10 l7.length l7 70010)] [(70010,⟨1,3,Nj l7⟩)])) (λu l8=>aG Γ (.exit 2) (Oz VR V5 u [(3,(.vsl 10 l8.length))] [(dN 10 l8.length l8 70010)] [(70010,⟨1,3,Nj l8⟩)])) (λ⟨i6,l7⟩ y h=>Ae q [3,4,11,12,13,18,19,20,21] V5 (gC h (λh=>tV q [3,4,7,11,12,13,18,19,20] V5 h λh=>Ox (⟨(Q17 l7 i2 v16 i6),[(dN 10 l7.length l7 70010)],[(70010,⟨1,3,Nj l7⟩)]⟩:St) (tC h λc10_ h=>tC h λc11_ h=>tC h λc12_ h=>tC h λc13_ h=>M4 (Le.trans (kQ (r:=10) (b:=70010) (k:=60010) Ay (0:Int) l7 (nD v16 i2 i6).toNat 3 rfl rfl rfl rfl (Qp c10_) (by kernel_rfl) (.here .nil)) (Ib (st':=⟨(Q17 l7 i2 v16 i6),[(10,.arr 1 22 l7.length (Oy 1 Ay (0:Int) l7 (Hu 70010 (nD v16 i2 i6).toNat 60010))),(60010,.tok 1 3 ((na l7 v16 i2 i6).length))],[(70010,⟨1,3,CO l7 (nD v16 i2 i6).toNat⟩)]⟩) (by kernel_rfl))) (gR q k8 [10,60010,70010] [(29,(WP (na l7 v16 i2 i6) 60010)),(31,(AV.list 1 Ay 0 (sV i2) .exact)),(32,(AV.list 1 Ay 0 ((na l7 v16 i2 i6)++(sV i2)) (.own 60010)))] [] (xk c11_ (Eq.refl l7.length) (show(AVle (((Oy 1 Ay (0:Int) l7 (Hu 70010 (nD v16 i2 i6).toNat 60010)) (nD v16 i2 i6).toNat).getD 0 .any) (WP (na l7 v16 i2 i6) 60010)) from YR) (Ca 1 Ay (0:Int) (sV i2)) (Eq.refl ((na l7 v16 i2 i6).length)) c12_ (Kh 1 60010 Ay (0:Int) (na l7 v16 i2 i6) (sV i2)) (Ft (na l7 v16 i2 i6) (sV i2)) c13_ (c1 (Eq.refl l7.length))) (Ox (⟨(Q13 l7 i2 v16 i6),[(10,.arr 1 22 l7.length (λi_=>AV.eraseAll (λn_=>B3 n_ [10,60010,70010]) ((E0 (Oy 1 Ay (0:Int) l7 (Hu 70010 (nD v16 i2 i6).toNat 60010)) (nD v16 i2 i6).toNat 0 [(AV.list 1 Ay 0 ((na l7 v16 i2 i6)++(sV i2)) (.own 60010))]) i_))),(60010,.tok 1 3 (((na l7 v16 i2 i6)++(sV i2)).length))],[(70010,⟨1,3,CO l7 (nD v16 i2 i6).toNat⟩)]⟩:St) (M4 (Le.trans (Le.trans (pV (r:=10) (b:=70010) (k:=60010) Ay (0:Int) l7 (nD v16 i2 i6).toNat ((na l7 v16 i2 i6)++(sV i2)) 3 rfl (fL (Qp c10_) rfl rfl) rfl rfl rfl rfl (Qp c10_) (by kernel_rfl) (.here (.tok .nil)) (by rw[hΓ];rfl)) (Ib (st':=⟨(Q13 l7 i2 v16 i6),[(dN 10 l7.length (zE l7 v16 i2 i6) 70010)],[(70010,⟨1,3,Nj (zE l7 v16 i2 i6)⟩)]⟩) (by kernel_rfl))) (Ib (Bx (λk_:Nat=>(⟨[(3,(.vsl 10 k_)),(4,(Ax i2)),(11,(WQ v16)),(12,(Vc v16.length)),(C6 13 i2),(18,(AV.list 1 Ay 0 (v16.getD i2.toNat []) .none)),(19,(.int .i64 ((v16.getD i2.toNat []).length:Int))),(C6 20 i6)],[(dN 10 k_ (zE l7 v16 i2 i6) 70010)],[(70010,⟨1,3,Nj (zE l7 v16 i2 i6)⟩)]⟩:St)) (show l7.length=(zE l7 v16 i2 i6).length from(Cm ..).symm)))) (Ae q k8 V5 (tN h))))))) λh=>tS h (gO (Bd (Bk VR V5 q))))) λx14 h=>gA (Ae q VR V5 (tN h)))) λh=>tS h (gO (Bd (Bk [3] V5 q))))) λx16 h=>gA (Ae q [2] V5 (Ox (⟨[(2,(.vsl 10 x16.length))],[(dN 10 x16.length x16 70010)],[(70010,⟨1,3,Nj x16⟩)]⟩:St) (tS h (gK (e:=.ret) (Ht [(10,20000)] (Le.trans (F1 (nm:=10) (sz:=1) (n:=x16.length) (e:=22) (f:=(Oy 1 Ay (0:Int) x16 (Tag.fam 70010))) (g:=(λi=>Lc (x16.getD i []))) rfl ⟨rfl,trivial⟩ (λ_ _=>rfl) (by rw[hΓ];rfl)) (Bk (st':=⟨[(2,(sA x16 10))],[(10,.tok 1 22 x16.length)],[]⟩) [2] [10] q)))))))))))
def H5(a1:TFunc):cx->Option (LR (Int×Ey) (Ey ⊕ (TGraph×Int))):=
 λ((i3,l4):cx)=>(bif (decide (i3<(a1.Blocks.length:Int))) then(Aw (A0 i3 a1.Blocks.length) ((Pn (⟨(a1.Blocks.getD i3.toNat default).End.Kind,(a1.Blocks.getD i3.toNat default).End.Arg,(a1.Blocks.getD i3.toNat default).End.To⟩:L8) (a1.Blocks.length:Int)).bind λx7=>(bif (!x7) then(some (.done (.inr ((⟨([]:Ey),([]:Ey)⟩:TGraph),(5:Int))))) else((KC ((a1.Blocks.getD i3.toNat default).End.To)).bind λx8=>(Aw (A0 i3 l4.length) (some (.next ((w64 (i3+1)),(l4.set i3.toNat x8))))))))) else(some (.done (.inl l4))))
abbrev nO:=(TGraph×Int)
def gH(Γ:Il)(a1:TFunc)(r:nO):Exit->St->Prop:=fK Tryz.prog Γ Tryz.f89.results.toList [] (.tuple (r9 r.1 r.2)) []
def wv:AV:=dO
def yc:List YG:=[Tz,(3,nH)]
def Q24(a1:TFunc)(i3:Int):=(a1.Blocks.getD i3.toNat default)
def Q22:AV:=tR
def Q23(a1:TFunc):=(List.replicate (a1.Blocks.length:Int).toNat ([]:Am))
def vn:List AV:=[yl,yl]
def Yc(a1:TFunc):Option nO:=
 ((Mq (a1.Blocks.length:Int)).bind λx1=>(bif (!x1) then(some ((⟨([]:Ey),([]:Ey)⟩:TGraph),(5:Int))) else(Aw (0<=(a1.Blocks.length:Int)/\(a1.Blocks.length:Int)<=(a1.Blocks.length:Int)/\(a1.Blocks.length:Int)<=(room:Int)) ((Ac (H5 a1) ((0:Int),(List.replicate (a1.Blocks.length:Int).toNat ([]:Am)))).bind (λx10=>(match x10 with|(.inl l5)=>((Nr l5).bind λx12=>(some ((⟨l5,x12⟩:TGraph),(0:Int))))|(.inr r13)=>(some r13)))))))
variable{v18:nO}
theorem e8(h:Yc v3=some v18):sP 89 [(XC v3)] [] (.tuple (r9 v18.1 v18.2)) []:=
 sG Tryz.func89 λΓ q=>have hΓ:=q.own;tW q Pe Pe [1,2,4] Pe (tB h λx1 y1 h=>tT q [1,2,4,13] Pe [(Z8 x1)] (c1 (W8 y1)) (gC h (λh=>gR q B7 [2] [(14,(.agg vn))] [] (c1 (show(AVle (.agg [wv,wv]) (.agg vn)) from(AVle.agg (.cons He (.cons He .nil))))) (Ox (⟨yc,[(Oi 72 vn)],[]⟩:St) (tS h (gK (e:=.ret) (Ht [] (show Le Γ _ (⟨yc,[(PL Q22)],[]⟩:St) from Le.trans (Bk (st':=⟨yc,[(Oi 72 vn)],[]⟩) B7 [2] q) (J8 (.cons (AVle.refl _) (.cons (AVle.refl _) .nil)) (.row (.cons AVle.untag (.cons AVle.untag .nil)) .nil)))))))) λh=>tV q [1,2,4,5] [1,2,16] h λh=>by exact M4 (Le.trans (Sp 16 (show ∀ k_,k_<((v3.Blocks.length:Int).toNat)->AVleL ((λi_=>AV.eraseAll (λn_=>B3 n_ [1,2,16]) ((λ_=>[wv]) i_)) k_) ((λi=>Lc ((Q23 v3).getD i [])) k_) from(λk hk=>Mi (e:=Lc) (d:=[]) (.cons (λ_ _ _ _ _ hh=>AVle.untag _ _ _ _ _ (He _ _ _ _ _ hh)) .nil) _ k (Mn hk)))) (Sq (λ(k_:Nat) u=>(Cs u [(5,(.vsl 16 k_))] [(16,.arr 1 22 k_ (λi=>Lc ((Q23 v3).getD i [])))])) (show(v3.Blocks.length:Int).toNat=(Q23 v3).length from(K1 ..).symm))) (Ae q cY Wm (tL q h cY Wm (λu (i3,l4)=>(Cs u [(5,(.vsl 16 l4.length)),(C6 20 i3)] [(16,.arr 1 22 l4.length (λi=>Lc (l4.getD i [])))])) (λu x_=>match x_ with|(.inl l5)=>aG Γ (.exit 0) (Oz Wo Wm u [(5,(.vsl 16 l5.length))] [(16,.arr 1 22 l5.length (λi=>Lc (l5.getD i [])))])|(.inr r_)=>aR (gH Γ v3 r_)) (λ⟨i3,l4⟩ y h=>Ae q [2,4,5,18,19,20,21] Wm (gC h (λh=>tV q [2,4,5,6,7,18,19,20] [2,7,16] h λh=>tB h λx7 y7 h=>tT q [2,4,5,6,7,18,19,20,29] [2,7,16] [(Z8 x7)] (c1 (LP y7)) (gC h (λh=>gR q B7 [2] [(30,(.agg vn))] [] (c1 (show(AVle (.agg [wv,wv]) (.agg vn)) from(AVle.agg (.cons He (.cons He .nil))))) (Ox (⟨yc,[(Oi 72 vn)],[]⟩:St) (tS h (gO (Lj (Ht [] (show Le Γ _ (⟨yc,[(PL Q22)],[]⟩:St) from Le.trans (Bk (st':=⟨yc,[(Oi 72 vn)],[]⟩) B7 [2] q) (J8 (.cons (AVle.refl _) (.cons (AVle.refl _) .nil)) (.row (.cons AVle.untag (.cons AVle.untag .nil)) .nil))))))))) λh=>tB h λx8 y8 h=>tC h λc9_ h=>tT q cY Wm [⟨[],[],(Rp x8),[],[],[]⟩] (c3 (jJ ((Q24 v3 i3).End.To) x8 y8) c9_ (Eq.refl l4.length)) (M4 (Le.trans (Sp 16 (show ∀ k_,k_<l4.length->AVleL ((λi_=>AV.eraseAll (λn_=>B3 n_ Wm) ((E0 (λi=>Lc (l4.getD i [])) i3.toNat 0 [(Rp x8)]) i_)) k_) ((λi=>Lc ((l4.set i3.toNat x8).getD i [])) k_) from(Bc (Cm ..).symm (λk_ hk_=>(Bx (AV.eraseAll (λn_=>B3 n_ Wm)) ((Fq (λ_ _=>rfl) (Gs c9_) rfl) k_ hk_)).trans rfl)))) (Sq (λ(k_:Nat) u=>(Cs u [(5,(.vsl 16 k_))] [(16,.arr 1 22 k_ (λi=>Lc ((l4.set i3.toNat x8).getD i [])))])) (show l4.length=(l4.set i3.toNat x8).length from(Cm ..).symm))) (Ae q cY Wm (tN h))))) λh=>tS h (gO (Bd (Bk Wo Wm q))))) λx10 h=>(match x10,h with | .inl l5,h=>gA (Ox (⟨[Tz,(5,(.vsl 16 l5.length))],[(PL wv),(16,.arr 1 22 l5.length (λi=>Lc (l5.getD i [])))],[]⟩:St) (M4 (Le.trans (F1 (nm:=16) (sz:=1) (n:=l5.length) (e:=22) (f:=(λi=>Lc (l5.getD i []))) (g:=(λi=>Lc (l5.getD i []))) rfl ⟨rfl,trivial⟩ (λ_ _=>rfl) (by rw[hΓ];rfl)) (Ib (st':=⟨[Tz,(5,(sA l5 16))],[(PL wv),(16,.tok 1 22 l5.length)],[]⟩) (by kernel_rfl))) (tB h λx12 y12 h=>tT q B7 [2,16,41] [⟨[],[(20000,41)],(sA x12 20000),[(20000,.tok 1 22 x12.length)],[],[]⟩] (c1 (Zi y12)) (tS h (Bi []))))) | .inr r13,h=>Pz (λst' hk=>tS h (gK hk)))))))
def Hw(aA:Ey)(i2:Int):Hr->Option (LR (Int×Int) (Unit ⊕ Bool)):=
 λ((i4,i5):Hr)=>(bif (decide (i5<((aA.getD i2.toNat []).length:Int))) then(Aw (A0 i5 (aA.getD i2.toNat []).length) ((bif ((decide (((aA.getD i2.toNat []).getD i5.toNat 0)<=i4))==false) then Ke ((aA.getD i2.toNat []).getD i5.toNat 0) (aA.length:Int) else some false).bind λx7=>(bif (bif (decide (((aA.getD i2.toNat []).getD i5.toNat 0)<=i4)) then true else(!x7)) then(some (.done (.inr false))) else(some (.next (((aA.getD i2.toNat []).getD i5.toNat 0),(w64 (i5+1)))))))) else(some (.done (.inl ()))))
def Dm(aA:Ey):Int->Option (LR Int (Unit ⊕ Bool)):=
 λ(i2:Int)=>(bif (decide (i2<(aA.length:Int))) then(Aw (A0 i2 aA.length) ((Ac (Hw aA i2) ((-1:Int),(0:Int))).bind (λx8=>(match x8 with|(.inl _)=>(some (.next (w64 (i2+1))))|(.inr r10)=>(some (.done (.inr r10))))))) else(some (.done (.inl ()))))
def Y6(Γ:Il)(aA:Ey)(r:Bool):Exit->St->Prop:=fK Tryz.prog Γ Tryz.f158.results.toList [] (.bool r) []
def Q25(aA:Ey)(i2:Int)(i5:Int)(i4:Int):=(decide (((aA.getD i2.toNat []).getD i5.toNat 0)<=i4))
def Po(aA:Ey):Option Bool:=
 ((Mq (aA.length:Int)).bind λx1=>(bif (!x1) then(some false) else((Ac (Dm aA) (0:Int)).bind (λx11=>(match x11 with|(.inl _)=>(some true)|(.inr r13)=>(some r13))))))
theorem LQ(h:Po v16=some v5):sP 158 [(WQ v16)] [] (.bool v5) []:=
 sG Tryz.func158 λΓ q=>Ae q [0] [] (tB h λx1 y1 h=>tT q [0,11] [] [(Z8 x1)] (c1 (W8 y1)) (gC h (λh=>Ae q [2] [] (tS h (Bi []))) λh=>Ae q VS [] (tL q h VS [] (λu i2=>(Cs u [(C6 14 i2)] [])) (λu x_=>match x_ with|(.inl _)=>aG Γ (.exit 0) (⟨[],[],[]⟩:St)|(.inr r_)=>aR (Y6 Γ v16 r_)) (λi2 y h=>Ae q [0,12,13,14,15] [] (gC h (λh=>tV q [0,4,12,13,14] [] h λh=>tW q [0,4,5,12,13,14] [] k9 [] (tL q h k9 [] (λu (i4,i5)=>(Cs u [(5,(Ax i4)),(C6 20 i5)] [])) (λu x_=>match x_ with|(.inl _)=>aG Γ (.exit 2) (Oz VS [] u [] [])|(.inr r_)=>aR (Y6 Γ v16 r_)) (λ⟨i4,i5⟩ y h=>Ae q [0,5,12,13,14,18,19,20,21] [] (gC h (λh=>tV q [0,5,7,12,13,14,18,19,20] [] h λh=>tB h λx7 y7 h=>tT q [0,7,12,13,14,18,19,20,33] [] [(Z8 x7)] (Za ((Q25 v16 i2 i5 i4)==false) (c3 (λ(hg:((Q25 v16 i2 i5 i4)==false)=true)=>(R9 (B0 hg y7))) (gI ((Q25 v16 i2 i5 i4)==false)) (Ld (Q25 v16 i2 i5 i4)))) (gC h (λh=>Ae q [2] [] (tS h (gO (Lj (Ht [] (Le.refl _ _)))))) λh=>tW q k9 [] k9 [] (tN h))) λh=>tS h (gO (Bd (Bk VS [] q))))) λx8 h=>(match x8,h with | .inl _,h=>gA (Ae q VS [] (tN h)) | .inr r10,h=>Pz (λst' hk=>tS h (gO (Lj hk)))))) λh=>tS h (gO (Bd (Bk [] [] q))))) λx11 h=>(match x11,h with | .inl _,h=>gA (Ae q [2] [] (tS h (Bi []))) | .inr r13,h=>Pz (λst' hk=>tS h (gK hk))))))
def E4(aa1:Am)(aa3:Am):Int->Option (LR Int (Unit ⊕ Bool)):=
 λ(i1:Int)=>(bif (decide (i1<(aa1.length:Int))) then(Aw (A0 i1 aa1.length) (Aw (A0 i1 aa3.length) (bif ((aa1.getD i1.toNat 0)!=(aa3.getD i1.toNat 0)) then(some (.done (.inr false))) else(some (.next (w64 (i1+1))))))) else(some (.done (.inl ()))))
def Xq(Γ:Il)(aa1:Am)(aa3:Am)(r:Bool):Exit->St->Prop:=fK Tryz.prog Γ Tryz.f123.results.toList [] (.bool r) []
def G4(aa1:Am)(aa3:Am):Option Bool:=
 (bif ((aa1.length:Int)!=(aa3.length:Int)) then(some false) else((Ac (E4 aa1 aa3) (0:Int)).bind (λx4=>(match x4 with|(.inl _)=>(some true)|(.inr r6)=>(some r6)))))
theorem P5(h:G4 v0 v1=some v5):sP 123 [(Rp v0),(Rp v1)] [] (.bool v5) []:=
 sG Tryz.func123 λΓ q=>tW q E6 [] Y2 [] (gC h (λh=>Ae q [4] [] (tS h (Bi []))) λh=>Ae q jn [] (tL q h jn [] (λu i1=>(Cs u [(C6 13 i1)] [])) (λu x_=>match x_ with|(.inl _)=>aG Γ (.exit 0) (⟨[],[],[]⟩:St)|(.inr r_)=>aR (Xq Γ v0 v1 r_)) (λi1 y h=>Ae q [0,1,12,13,14] [] (gC h (λh=>Ae q [0,1,5,12,13] [] (tC h λc2_ h=>tC h λc3_ h=>tU q [0,1,12,13,24] [] (c2 c2_ c3_) (gC h (λh=>Ae q [4] [] (tS h (gO (Lj (Ht [] (Le.refl _ _)))))) λh=>Ae q jn [] (tN h)))) λh=>tS h (gO (Bd (Bk [] [] q))))) λx4 h=>(match x4,h with | .inl _,h=>gA (Ae q [4] [] (tS h (Bi []))) | .inr r6,h=>Pz (λst' hk=>tS h (gK hk)))))
def B5(aa1:Ey)(aa3:Ey):Int->Option (LR Int (Unit ⊕ Bool)):=
 λ(i1:Int)=>(bif (decide (i1<(aa1.length:Int))) then(Aw (A0 i1 aa1.length) (Aw (A0 i1 aa3.length) ((G4 (aa1.getD i1.toNat []) (aa3.getD i1.toNat [])).bind λx4=>(bif (!x4) then(some (.done (.inr false))) else(some (.next (w64 (i1+1)))))))) else(some (.done (.inl ()))))
def Pr(Γ:Il)(aa1:Ey)(aa3:Ey)(r:Bool):Exit->St->Prop:=fK Tryz.prog Γ Tryz.f159.results.toList [] (.bool r) []
def Do(aa1:Ey)(aa3:Ey):Option Bool:=
 (bif ((aa1.length:Int)!=(aa3.length:Int)) then(some false) else((Ac (B5 aa1 aa3) (0:Int)).bind (λx5=>(match x5 with|(.inl _)=>(some true)|(.inr r7)=>(some r7)))))
theorem O9(h:Do v16 v17=some v5):sP 159 [(WQ v16),(WQ v17),(.clo 123 [] [])] [] (.bool v5) []:=
 sG Tryz.func159 λΓ q=>tW q Zv [] [0,1,2,14] [] (gC h (λh=>Ae q [6] [] (tS h (Bi []))) λh=>Ae q jY [] (tL q h jY [] (λu i1=>(Cs u [(C6 17 i1)] [])) (λu x_=>match x_ with|(.inl _)=>aG Γ (.exit 0) (⟨[],[],[]⟩:St)|(.inr r_)=>aR (Pr Γ v16 v17 r_)) (λi1 y h=>Ae q [1,2,15,16,17,18] [] (gC h (λh=>tV q [1,2,7,8,15,16,17] [] h λh=>tV q [1,2,8,9,15,16,17] [] h λh=>tB h λx4 y4 h=>tT q [1,2,15,16,17,30] [] [(Z8 x4)] (c1 (P5 y4)) (gC h (λh=>Ae q [6] [] (tS h (gO (Lj (Ht [] (Le.refl _ _)))))) λh=>Ae q jY [] (tN h))) λh=>tS h (gO (Bd (Bk [] [] q))))) λx5 h=>(match x5,h with | .inl _,h=>gA (Ae q [6] [] (tS h (Bi []))) | .inr r7,h=>Pz (λst' hk=>tS h (gK hk)))))
def Vr(a9:TGraph):Option Bool:=
 ((Po a9.Succ).bind λx1=>((bif (x1==true) then Nr a9.Succ else some []).bind λx2=>((bif (x1==true) then Do a9.Pred x2 else some false).bind λx3=>(some (bif x1 then x3 else false)))))
variable{v19:TGraph}
theorem cE(h:Vr v19=some v5):sP 118 [(.agg (X0 v19))] [] (.bool v5) []:=
 sG Tryz.func118 λΓ q=>Ae q [1] [1] (tB h λx1 y1 h=>tB h λx2 y2 h=>tB h λx3 y3 h=>tT q [2] [] [(Z8 x1),⟨[],[],(WQ x2),[],[],[]⟩,(Z8 x3)] (ci (LQ y1) (Za (x1==true) (ci (show((x1==true)=true->(sP 117 [(WQ v19.Succ)] [] (WQ x2) [])) from(λhg=>(Spec.drop (Zi (B0 hg y2))))) (Lz (x1==true) (c2 (λ(hg:(x1==true)=true)=>(O9 (B0 hg y3))) (L0 x1)))))) (tS h (Bi [])))
abbrev yX:=(Int×Int×Am)
def Bl :yX->Option (LR (Int×Int×Am) Am):=
 λ((i1,i2,l3):yX)=>(bif (decide (i1<i2)) then(Aw (A0 i2 l3.length) (Aw (A0 i1 l3.length) (Aw (A0 i1 l3.length) (Aw (A0 i2 l3.length) (some (.next ((w64 (i1+1)),(w64 (i2-1)),((l3.set i1.toNat (l3.getD i2.toNat 0)).set i2.toNat (l3.getD i1.toNat 0))))))))) else(some (.done l3)))
def Q26(l3:Am)(i1:Int)(i2:Int):=((l3.set i1.toNat (l3.getD i2.toNat 0)).set i2.toNat (l3.getD i1.toNat 0))
def Fp(aY:Am):Option Am:=
 ((Ac (S:=yX) (X:=Am) Bl ((0:Int),(w64 ((aY.length:Int)-1)),aY)).bind (λx9=>(some x9)))
theorem Oo(h:Fp v0=some v1):sP 120 [(.vsl 34000 v0.length)] [(AQ 34000 v0)] (.tuple []) [(AQ 34000 v1)]:=
 sG Tryz.func120 λΓ q=>Ae q [0,2,3] [34000] (tL q h [0,2,3] [34000] (λu (i1,i2,l3)=>(Cs u [(0,(.vsl 34000 l3.length)),(2,(Ax i1)),(3,(Ax i2))] [(AQ 34000 l3)])) (λu l4=>aG Γ (.exit 0) (⟨[],[(AQ 34000 l4)],[]⟩:St)) (λ⟨i1,i2,l3⟩ y h=>Ae q [0,2,3,9] [34000] (gC h (λh=>tC h λc5_ h=>tC h λc6_ h=>tC h λc7_ h=>tC h λc8_ h=>tU q [0,2,3] [34000] (c8 c5_ (Eq.refl l3.length) c6_ (Eq.refl l3.length) c7_ (Eq.refl l3.length) c8_ (Eq.refl l3.length)) (M4 (Le.trans (Sp 34000 (show ∀ k_,k_<l3.length->AVleL ((λi_=>AV.eraseAll (λn_=>B3 n_ [34000]) ((E0 (E0 (λi=>Ay (l3.getD i 0)) i1.toNat 0 [(.int .i64 (l3.getD i2.toNat 0))]) i2.toNat 0 [(.int .i64 (l3.getD i1.toNat 0))]) i_)) k_) ((λi=>Ay ((Q26 l3 i1 i2).getD i 0)) k_) from(Bc (Eq.trans (Cm ..).symm (Cm ..).symm) (λk_ hk_=>(Bx (AV.eraseAll (λn_=>B3 n_ [34000])) ((Fq (Fq (λ_ _=>rfl) (Gs c7_) rfl) (uR c8_) rfl) k_ hk_)).trans rfl)))) (Sq (λ(k_:Nat) u=>(Cs u [(0,(.vsl 34000 k_))] [(34000,.arr 1 3 k_ (λi=>Ay ((Q26 l3 i1 i2).getD i 0)))])) (show l3.length=(Q26 l3 i1 i2).length from(Eq.trans (Cm ..).symm (Cm ..).symm)))) (Ae q [0,2,3] [34000] (tN h)))) λh=>tS h (gO (Bd (Bk [] [34000] q))))) λx9 h=>nJ (λst' hl10=>tS h (gK (e:=.normal) (Ht [(34000,34000)] hl10))))
abbrev Abe:=(LR Am (Am ⊕ (List Bool×Am×Am)))
def LB(a9:TGraph)(a8:Int):Am->Option Abe:=
 λ(l9:Am)=>(Aw (A0 ([a8].getD (w64 (([a8].length:Int)-1)).toNat (0:Int)) 64) (Aw (A0 ([a8].getD (w64 (([a8].length:Int)-1)).toNat (0:Int)) a9.Succ.length) (bif (decide ((l9.getD ([a8].getD (w64 (([a8].length:Int)-1)).toNat (0:Int)).toNat (0:Int))<((a9.Succ.getD ([a8].getD (w64 (([a8].length:Int)-1)).toNat (0:Int)).toNat []).length:Int))) then(Aw (A0 ([a8].getD (w64 (([a8].length:Int)-1)).toNat (0:Int)) a9.Succ.length) (Aw (A0 ([a8].getD (w64 (([a8].length:Int)-1)).toNat (0:Int)) 64) (Aw (A0 (l9.getD ([a8].getD (w64 (([a8].length:Int)-1)).toNat (0:Int)).toNat (0:Int)) (a9.Succ.getD ([a8].getD (w64 (([a8].length:Int)-1)).toNat (0:Int)).toNat []).length) (Aw (A0 ([a8].getD (w64 (([a8].length:Int)-1)).toNat (0:Int)) 64) (Aw (A0 ([a8].getD (w64 (([a8].length:Int)-1)).toNat (0:Int)) 64) (Aw (A0 ((a9.Succ.getD ([a8].getD (w64 (([a8].length:Int)-1)).toNat (0:Int)).toNat []).getD (l9.getD ([a8].getD (w64 (([a8].length:Int)-1)).toNat (0:Int)).toNat (0:Int)).toNat (0:Int)) 64) (bif (!((Qj 64 false (List.replicate 64 false) a8.toNat true).getD ((a9.Succ.getD ([a8].getD (w64 (([a8].length:Int)-1)).toNat (0:Int)).toNat []).getD (l9.getD ([a8].getD (w64 (([a8].length:Int)-1)).toNat (0:Int)).toNat (0:Int)).toNat (0:Int)).toNat false)) then(Aw (A0 ((a9.Succ.getD ([a8].getD (w64 (([a8].length:Int)-1)).toNat (0:Int)).toNat []).getD (l9.getD ([a8].getD (w64 (([a8].length:Int)-1)).toNat (0:Int)).toNat (0:Int)).toNat (0:Int)) 64) (Aw ([a8].length+([((a9.Succ.getD ([a8].getD (w64 (([a8].length:Int)-1)).toNat (0:Int)).toNat []).getD (l9.getD ([a8].getD (w64 (([a8].length:Int)-1)).toNat (0:Int)).toNat (0:Int)).toNat (0:Int))]:Am).length<=room) (some (.done (.inr ((Qj 64 false (Qj 64 false (List.replicate 64 false) a8.toNat true) ((a9.Succ.getD ([a8].getD (w64 (([a8].length:Int)-1)).toNat (0:Int)).toNat []).getD (l9.getD ([a8].getD (w64 (([a8].length:Int)-1)).toNat (0:Int)).toNat (0:Int)).toNat (0:Int)).toNat true),(Qj 64 (0:Int) l9 ([a8].getD (w64 (([a8].length:Int)-1)).toNat (0:Int)).toNat (w64 ((l9.getD ([a8].getD (w64 (([a8].length:Int)-1)).toNat (0:Int)).toNat (0:Int))+1))),([a8]++([((a9.Succ.getD ([a8].getD (w64 (([a8].length:Int)-1)).toNat (0:Int)).toNat []).getD (l9.getD ([a8].getD (w64 (([a8].length:Int)-1)).toNat (0:Int)).toNat (0:Int)).toNat (0:Int))]:Am)))))))) else(some (.next (Qj 64 (0:Int) l9 ([a8].getD (w64 (([a8].length:Int)-1)).toNat (0:Int)).toNat (w64 ((l9.getD ([a8].getD (w64 (([a8].length:Int)-1)).toNat (0:Int)).toNat (0:Int))+1)))))))))))) else(some (.done (.inl l9))))))
def Jo(a9:TGraph)(l1:List Bool)(l3:Am):Am->Option Abe:=
 λ(l32:Am)=>(Aw (A0 (l3.getD (w64 ((l3.length:Int)-1)).toNat (0:Int)) 64) (Aw (A0 (l3.getD (w64 ((l3.length:Int)-1)).toNat (0:Int)) a9.Succ.length) (bif (decide ((l32.getD (l3.getD (w64 ((l3.length:Int)-1)).toNat (0:Int)).toNat (0:Int))<((a9.Succ.getD (l3.getD (w64 ((l3.length:Int)-1)).toNat (0:Int)).toNat []).length:Int))) then(Aw (A0 (l3.getD (w64 ((l3.length:Int)-1)).toNat (0:Int)) a9.Succ.length) (Aw (A0 (l3.getD (w64 ((l3.length:Int)-1)).toNat (0:Int)) 64) (Aw (A0 (l32.getD (l3.getD (w64 ((l3.length:Int)-1)).toNat (0:Int)).toNat (0:Int)) (a9.Succ.getD (l3.getD (w64 ((l3.length:Int)-1)).toNat (0:Int)).toNat []).length) (Aw (A0 (l3.getD (w64 ((l3.length:Int)-1)).toNat (0:Int)) 64) (Aw (A0 (l3.getD (w64 ((l3.length:Int)-1)).toNat (0:Int)) 64) (Aw (A0 ((a9.Succ.getD (l3.getD (w64 ((l3.length:Int)-1)).toNat (0:Int)).toNat []).getD (l32.getD (l3.getD (w64 ((l3.length:Int)-1)).toNat (0:Int)).toNat (0:Int)).toNat (0:Int)) 64) (bif (!(l1.getD ((a9.Succ.getD (l3.getD (w64 ((l3.length:Int)-1)).toNat (0:Int)).toNat []).getD (l32.getD (l3.getD (w64 ((l3.length:Int)-1)).toNat (0:Int)).toNat (0:Int)).toNat (0:Int)).toNat false)) then(Aw (A0 ((a9.Succ.getD (l3.getD (w64 ((l3.length:Int)-1)).toNat (0:Int)).toNat []).getD (l32.getD (l3.getD (w64 ((l3.length:Int)-1)).toNat (0:Int)).toNat (0:Int)).toNat (0:Int)) 64) (Aw (l3.length+([((a9.Succ.getD (l3.getD (w64 ((l3.length:Int)-1)).toNat (0:Int)).toNat []).getD (l32.getD (l3.getD (w64 ((l3.length:Int)-1)).toNat (0:Int)).toNat (0:Int)).toNat (0:Int))]:Am).length<=room) (some (.done (.inr ((Qj 64 false l1 ((a9.Succ.getD (l3.getD (w64 ((l3.length:Int)-1)).toNat (0:Int)).toNat []).getD (l32.getD (l3.getD (w64 ((l3.length:Int)-1)).toNat (0:Int)).toNat (0:Int)).toNat (0:Int)).toNat true),(Qj 64 (0:Int) l32 (l3.getD (w64 ((l3.length:Int)-1)).toNat (0:Int)).toNat (w64 ((l32.getD (l3.getD (w64 ((l3.length:Int)-1)).toNat (0:Int)).toNat (0:Int))+1))),(l3++([((a9.Succ.getD (l3.getD (w64 ((l3.length:Int)-1)).toNat (0:Int)).toNat []).getD (l32.getD (l3.getD (w64 ((l3.length:Int)-1)).toNat (0:Int)).toNat (0:Int)).toNat (0:Int))]:Am)))))))) else(some (.next (Qj 64 (0:Int) l32 (l3.getD (w64 ((l3.length:Int)-1)).toNat (0:Int)).toNat (w64 ((l32.getD (l3.getD (w64 ((l3.length:Int)-1)).toNat (0:Int)).toNat (0:Int))+1)))))))))))) else(some (.done (.inl l32))))))
abbrev qx:=(List Bool×Am×Am×Am)
def E1(a9:TGraph):qx->Option (LR (List Bool×Am×Am×Am) Am):=
 λ(s_:qx)=>match s_ with|(l1,l2,l3,l4)=>(Aw (A0 (w64 ((l3.length:Int)-1)) l3.length) ((Ac (Jo a9 l1 l3) l2).bind (λx47=>(match x47 with|(.inl l33)=>(Aw (l4.length+([(l3.getD (w64 ((l3.length:Int)-1)).toNat (0:Int))]:Am).length<=room) (Aw (0<=(w64 ((l3.length:Int)-1))/\0+(w64 ((l3.length:Int)-1)).toNat<=l3.length) (bif (decide ((0:Int)<((l3.take (w64 ((l3.length:Int)-1)).toNat).length:Int))) then(some (.next (l1,l33,(l3.take (w64 ((l3.length:Int)-1)).toNat),(l4++([(l3.getD (w64 ((l3.length:Int)-1)).toNat (0:Int))]:Am))))) else((Fp (l4++([(l3.getD (w64 ((l3.length:Int)-1)).toNat (0:Int))]:Am))).bind λx51=>(Aw ((l4++([(l3.getD (w64 ((l3.length:Int)-1)).toNat (0:Int))]:Am)).length=x51.length) (some (.done x51)))))))|(.inr (l34,l35,l36))=>(some (.next (l34,l35,l36,l4)))))))
def WU(Γ:Il)(a9:TGraph)(a8:Int)(r:Am):Exit->St->Prop:=fK Tryz.prog Γ Tryz.f90.results.toList [] (WP r 20000) [(20000,.tok 1 3 r.length)]
def yf(l1:List Bool):=(λi=>eB (l1.getD i false))
def nE(l3:Am):=(l3.getD (w64 ((l3.length:Int)-1)).toNat (0:Int))
def nw(l4:Am)(l3:Am):=(l4++([(nE l3)]:Am))
def zh(l10:Am):=(λi=>Ay (l10.getD i 0))
def zi(l33:Am):=(λi=>Ay (l33.getD i 0))
def fx:=(λn_=>B3 n_ [2,5,6,25,36007])
def xF(a8:Int):=(λi=>Ay ([a8].getD i 0))
def jv(a8:Int):=([a8].getD (w64 (([a8].length:Int)-1)).toNat (0:Int))
def rx(a8:Int):=(([]:Am)++([(jv a8)]:Am))
def yh(a8:Int):=(λi=>Ay ((rx a8).getD i 0))
def yg(l4:Am)(l3:Am):=(λi=>Ay ((nw l4 l3).getD i 0))
def ye:AV:=oC
def Q37:=(λi=>Ay (([]:Am).getD i 0))
def xB(l3:Am):=(0+(w64 ((l3.length:Int)-1)).toNat)
def yd(a8:Int):=(0+(w64 (([a8].length:Int)-1)).toNat)
def Q47(a8:Int):=([a8].take (w64 (([a8].length:Int)-1)).toNat)
def Q36:=(λi=>Ay ((List.replicate 64 (0:Int)).getD i 0))
def nt(a9:TGraph):List AV:=[(WQ a9.Succ),(WQ a9.Pred)]
def vo(a8:Int):=(λi=>eB ((Qj 64 false (List.replicate 64 false) a8.toNat true).getD i false))
def rv(a9:TGraph)(l3:Am)(l32:Am):=((a9.Succ.getD (nE l3).toNat []).getD (l32.getD (nE l3).toNat (0:Int)).toNat (0:Int))
def ru(a9:TGraph)(a8:Int)(l9:Am):=((a9.Succ.getD (jv a8).toNat []).getD (l9.getD (jv a8).toNat (0:Int)).toNat (0:Int))
def Q46:=(Z52:St)
def Q50(a8:Int):List YG:=[Tz,RK,RJ,(7,(.vsl 36007 (rx a8).length)),(8,(.vsl 25 (yd a8)))]
def Q43(a8:Int)(a9:TGraph):=(⟨[Tz,RK,RJ,(7,(.vsl 36007 ([]:Am).length)),(8,(.vsl 25 [a8].length)),(9,(Ax (jv a8)))],[(Oi 72 (nt a9)),(RM (vo a8)),(PM Q36),(25,.arr 1 3 ([a8].length) (xF a8)),(36007,.arr 1 3 (([]:Am).length) Q37)],[]⟩:St)
def K8(a9:TGraph)(a8:Int):Option Am:=
 ((N6 (S:=qx) (X:=Am) ((Vr a9).bind λx5=>((bif ((!x5)==false) then Ke a8 (a9.Succ.length:Int) else some false).bind λx6=>(bif (bif (!x5) then true else(!x6)) then(some (.done ([]:Am))) else(Aw (A0 a8 64) (Aw (A0 (w64 (([a8].length:Int)-1)) [a8].length) ((Ac (LB a9 a8) (List.replicate 64 (0:Int))).bind (λx24=>(match x24 with|(.inl l10)=>(Aw (([]:Am).length+([([a8].getD (w64 (([a8].length:Int)-1)).toNat (0:Int))]:Am).length<=room) (Aw (0<=(w64 (([a8].length:Int)-1))/\0+(w64 (([a8].length:Int)-1)).toNat<=[a8].length) (bif (decide ((0:Int)<(([a8].take (w64 (([a8].length:Int)-1)).toNat).length:Int))) then(some (.next ((Qj 64 false (List.replicate 64 false) a8.toNat true),l10,([a8].take (w64 (([a8].length:Int)-1)).toNat),(([]:Am)++([([a8].getD (w64 (([a8].length:Int)-1)).toNat (0:Int))]:Am))))) else((Fp (([]:Am)++([([a8].getD (w64 (([a8].length:Int)-1)).toNat (0:Int))]:Am))).bind λx28=>(Aw ((([]:Am)++([([a8].getD (w64 (([a8].length:Int)-1)).toNat (0:Int))]:Am)).length=x28.length) (some (.done x28)))))))|(.inr (l11,l12,l13))=>(some (.next (l11,l12,l13,([]:Am)))))))))))) (E1 a9)).bind (λx54=>(some x54)))
theorem DC(h:K8 v19 v4=some v0):sP 90 (r9 v19 v4) [] (WP v0 20000) [(20000,.tok 1 3 v0.length)]:=
 sG Tryz.func90 λΓ q=>have hΓ:=q.own;gR q Pe [2] [(4,ye)] [] (c1 (Bh 1 Ay (0:Int))) (tB h λx54 y54 h=>gS y54 (λ(s_:qx)=>match s_ with|(l1,l2,l3,l4)=>0) (λ(s_:qx)=>match s_ with|(l1,l2,l3,l4)=>(⟨[Tz,RK,RJ,(Ue 36007 l4.length),(8,(.vsl 25 l3.length))],[(Oi 72 (nt v19)),(RM (yf l1)),(Z96 l2),(AQ 25 l3),(AQ 36007 l4)],[]⟩:St)) (λr_=>aR (WU Γ v19 v4 r_)) (λy h=>tB h λx5 y5 h=>tB h λx6 y6 h=>tT q [1,2,21] [2] [(Z8 x5),(Z8 x6)] (ci (cE y5) (mF ((!x5)==false) (c3 (λ(hg:((!x5)==false)=true)=>(R9 (B0 hg y6))) (gI ((!x5)==false)) (Ld (!x5))))) (gC h (λh=>gR q [4] [] [(4,ye)] [] (c1 (Bh 1 Ay (0:Int))) (Ox (⟨[(4,ye)],[],[]⟩:St) (tS h (WS (Lj (Ht cj (show Le Γ _ Q46 from Le.trans (Bk (st':=⟨[(4,ye)],[],[]⟩) [4] [] q) (Le.trans (Nl (t:=4) (nm:=6004) (sz':=1) Q37 3 rfl rfl (.inl ⟨rfl,rfl⟩) (λh_=>absurd h_ (by decide))) (Bk (st':=Q46) [4] [6004] q))))))))) λh=>gR q Wl Wo [RK] [] trivial (M4 (Sp 5 (show ∀ k_,k_<64->AVleL ((λi_=>AV.eraseAll (λn_=>B3 n_ Wo) ((λi=>(((List.replicate 64 [(.bool false)]).flatten).drop (i*1)).take 1) i_)) k_) ((λi=>eB ((List.replicate 64 false).getD i false)) k_) from(YQ (e:=eB) (d:=false) (z:=[(.bool false)]) rfl rfl rfl))) (gR q [1,2,5,6] Xn [RJ] [] trivial (M4 (Sp 6 (show ∀ k_,k_<64->AVleL ((λi_=>AV.eraseAll (λn_=>B3 n_ Xn) ((λi=>(((List.replicate 64 [Px]).flatten).drop (i*1)).take 1) i_)) k_) (Q36 k_) from(YQ (e:=Ay) (d:=(0:Int)) (z:=[Px]) rfl rfl rfl))) (gR q jh Xn [(7,ye)] [] (c1 (Bh 1 Ay (0:Int))) (tC h λc7_ h=>tU q jh Xn (c2 c7_ (Eq.refl 64)) (M4 (Sp 5 (show ∀ k_,k_<64->AVleL ((λi_=>AV.eraseAll (λn_=>B3 n_ Xn) ((E0 (λi=>eB ((List.replicate 64 false).getD i false)) v4.toNat 0 [(.bool true)]) i_)) k_) ((vo v4) k_) from(Bc rfl (λk_ hk_=>(Bx (AV.eraseAll (λn_=>B3 n_ Xn)) ((Xa (λ_ _=>rfl) (Qp c7_) rfl) k_ hk_)).trans rfl)))) (gR q EN cm [(25,(.vsl 25 1))] [] trivial (M4 (Le.trans (Sp 25 (show ∀ k_,k_<1->AVleL ((λi_=>AV.eraseAll (λn_=>B3 n_ cm) ((λi_=>([(Ax v4)].drop (i_*1)).take 1) i_)) k_) ((xF v4) k_) from(Bc rfl (vA (n:=0) yQ rfl)))) (Sq (λ(k_:Nat) u=>(Cs u [(8,(.vsl 25 k_))] [(25,.arr 1 3 k_ (xF v4))])) (show 1=[v4].length from rfl))) (tC h λc8_ h=>tU q GW cm (c2 c8_ (Eq.refl ([v4].length))) (M4 (st':=(Q43 v4 v19)) (Le.trans (Bk (st':=⟨[Tz,RK,RJ,(7,ye),(8,(.vsl 25 [v4].length)),(9,(Ax (jv v4)))],[(Oi 72 (nt v19)),(RM (vo v4)),(PM Q36),(25,.arr 1 3 ([v4].length) (xF v4))],[]⟩) GW cm q) (Le.trans (pT (t:=7) (nm:=36007) (sz':=1) Q37 3 rfl rfl) (Bk (st':=(Q43 v4 v19)) GW J9 q))) (tL q h GW J9 (λu l9=>(Cs u [] [(Z96 l9)])) (λu x_=>match x_ with|(.inl l10)=>aG Γ (.exit 0) (Cs u [] [(PM (zh l10))])|(.inr (l11,l12,l13))=>aG Γ (.goto 0) (Oz EN J9 u [(8,(.vsl 25 l13.length))] [(5,.arr 1 164 64 (λi=>eB (l11.getD i false))),(Z96 l12),(AQ 25 l13)])) (λl9 y h=>tC h λc14_ h=>tC h λc15_ h=>tU q [2,5,6,7,8,9,41] J9 (c3 c14_ (Eq.refl 64) c15_) (gC h (λh=>tC h λc16_ h=>tC h λc17_ h=>tC h λc18_ h=>tU q cX J9 (c4 c16_ c17_ (Eq.refl 64) c18_) (tC h λc19_ h=>tC h λc20_ h=>tU q cX J9 (c4 c19_ (Eq.refl 64) c20_ (Eq.refl 64)) (M4 (Sp 6 (show ∀ k_,k_<64->AVleL ((λi_=>AV.eraseAll fx ((E0 (λi=>Ay (l9.getD i 0)) (jv v4).toNat 0 [(.int .i64 (w64 ((l9.getD (jv v4).toNat (0:Int))+1)))]) i_)) k_) ((λi=>Ay ((Qj 64 (0:Int) l9 (jv v4).toNat (w64 ((l9.getD (jv v4).toNat (0:Int))+1))).getD i 0)) k_) from(Bc rfl (λk_ hk_=>(Bx (AV.eraseAll fx) ((Xa (λ_ _=>rfl) (Qp c20_) rfl) k_ hk_)).trans rfl)))) (tC h λc21_ h=>tU q re J9 (c2 c21_ (Eq.refl 64)) (gC h (λh=>tC h λc22_ h=>tU q [2,5,6,7,8,10] J9 (c2 c22_ (Eq.refl 64)) (M4 (Sp 5 (show ∀ k_,k_<64->AVleL ((λi_=>AV.eraseAll fx ((E0 (vo v4) (ru v19 v4 l9).toNat 0 [(.bool true)]) i_)) k_) ((λi=>eB ((Qj 64 false (Qj 64 false (List.replicate 64 false) v4.toNat true) (ru v19 v4 l9).toNat true).getD i false)) k_) from(Bc rfl (λk_ hk_=>(Bx (AV.eraseAll fx) ((Xa (λ_ _=>rfl) (Qp c22_) rfl) k_ hk_)).trans rfl)))) (tC h λc23_ h=>gR q EN J9 [(65,(tc (ru v19 v4 l9)))] [] (c3 (Ca 1 Ay (0:Int) ([(ru v19 v4 l9)]:Am)) (Eq.refl ([v4].length)) c23_) (tS h (gO (Bd (Le.trans (Le.trans (Sp 25 (show ∀ k_,k_<([v4].length+([(ru v19 v4 l9)]:Am).length)->AVleL ((λi_=>AV.eraseAll fx ((O4 ([v4].length) (xF v4) (λi=>Ay (([(ru v19 v4 l9)]:Am).getD i 0))) i_)) k_) ((λi=>Ay (([v4]++([(ru v19 v4 l9)]:Am)).getD i 0)) k_) from(Bc (Ft _ _) (λk_ hk_=>(Bx (AV.eraseAll fx) ((IJ (λ_ _=>rfl) (λ_ _=>rfl)) k_ hk_)).trans rfl)))) (Sq (λ(k_:Nat) u=>(Cs u [(8,(.vsl 25 k_))] [(25,.arr 1 3 k_ (λi=>Ay (([v4]++([(ru v19 v4 l9)]:Am)).getD i 0)))])) (show([v4].length+([(ru v19 v4 l9)]:Am).length)=([v4]++([(ru v19 v4 l9)]:Am)).length from(Ft _ _)))) Jh))))))) λh=>tS h (gN (Bk GW J9 q))))))) λh=>tS h (gO (Bd (Bk GW J9 q))))) λx24 h=>(match x24,h with | .inl l10,h=>gA (tC h λc26_ h=>gR q EN J9 [(69,(tc (jv v4)))] [] (c3 (Ca 1 Ay (0:Int) ([(jv v4)]:Am)) (Eq.refl (([]:Am).length)) c26_) (M4 (Le.trans (Sp 36007 (show ∀ k_,k_<(([]:Am).length+([(jv v4)]:Am).length)->AVleL ((λi_=>AV.eraseAll fx ((O4 (([]:Am).length) Q37 (λi=>Ay (([(jv v4)]:Am).getD i 0))) i_)) k_) ((yh v4) k_) from(Bc (Ft _ _) (λk_ hk_=>(Bx (AV.eraseAll fx) ((IJ (λ_ _=>rfl) (λ_ _=>rfl)) k_ hk_)).trans rfl)))) (Sq (λ(k_:Nat) u=>(Cs u [(Ue 36007 k_)] [(36007,.arr 1 3 k_ (yh v4))])) (show(([]:Am).length+([(jv v4)]:Am).length)=(rx v4).length from(Ft _ _)))) (tC h λc27_ h=>tU q EN J9 (c1 c27_) (Ox (⟨[Tz,RK,RJ,(7,(.vsl 36007 (rx v4).length)),(8,(.vsub 25 [v4].length 0 (yd v4)))],[(Oi 72 (nt v19)),(RM (vo v4)),(PM (zh l10)),(25,.arr 1 3 ([v4].length) (xF v4)),(36007,.arr 1 3 ((rx v4).length) (yh v4))],[]⟩:St) (M4 (Le.trans (Le.trans (eH (t:=8) (r:=25) (k:=(yd v4)) rfl rfl c27_.2 (by kernel_rfl) (.row (by kernel_rfl) (.arr (λ_=>by kernel_rfl) (.arr (λ_=>by kernel_rfl) (.arr (λ_=>by kernel_rfl) (.arr (λ_=>by kernel_rfl) .nil))))) (by rw[hΓ];rfl)) (Ib (st':=⟨(Q50 v4),[(Oi 72 (nt v19)),(RM (vo v4)),(PM (zh l10)),(25,.arr 1 3 (yd v4) (xF v4)),(36007,.arr 1 3 ((rx v4).length) (yh v4))],[]⟩) (by kernel_rfl))) (Le.trans (J8 (st':=⟨(Q50 v4),[(Oi 72 (nt v19)),(RM (vo v4)),(PM (zh l10)),(25,.arr 1 3 (yd v4) (λi=>Ay ((Q47 v4).getD i 0))),(36007,.arr 1 3 ((rx v4).length) (yh v4))],[]⟩) (TmpsLe.refl _) (.same (.same (.same (.arr (kq (e:=Ay) (d:=(0:Int))) (.same .nil)))))) (Ib (Bx (λk_:Nat=>(⟨[Tz,RK,RJ,(7,(.vsl 36007 (rx v4).length)),(8,(.vsl 25 k_))],[(Oi 72 (nt v19)),(RM (vo v4)),(PM (zh l10)),(25,.arr 1 3 k_ (λi=>Ay ((Q47 v4).getD i 0))),(36007,.arr 1 3 ((rx v4).length) (yh v4))],[]⟩:St)) (show(yd v4)=(Q47 v4).length from fb c27_.2))))) (Ae q [2,5,6,7,8,78] J9 (gC h (λh=>tS h (mG (Bk EN J9 q))) λh=>tB h λx28 y28 h=>tC h λc29_ h=>tT q [7] [36007] [⟨[(36007,34000)],[],(.tuple []),[(AQ 34000 x28)],[],[]⟩] (c1 (Oo y28)) (M4 (Sq (λ(k_:Nat) u=>(Cs u [(Ue 36007 k_)] [])) (show(rx v4).length=x28.length from c29_)) (Ae q [4] [36007] (Ox ((oA 36007 x28.length x28):St) (tS h (WS (Lj (Ht [(36007,20000)] (Le.trans (F1 (nm:=36007) (sz:=1) (n:=x28.length) (e:=3) (f:=(λi=>Ay (x28.getD i 0))) (g:=(λi=>Ay (x28.getD i 0))) rfl ⟨rfl,trivial⟩ (λ_ _=>rfl) (by rw[hΓ];rfl)) (Ib (st':=(n9 x28 36007 x28.length)) (by kernel_rfl))))))))))))))))) | .inr ⟨l11,l12,l13⟩,h=>nJ (λst' hl30=>tS h (mG (Le.trans hl30 Jh))))))))))))))))) (λ⟨l1,l2,l3,l4⟩ y h=>tC h λc31_ h=>tU q GW J9 (c2 c31_ (Eq.refl l3.length)) (tL q h GW J9 (λu l32=>(Cs u [] [(Z96 l32)])) (λu x_=>match x_ with|(.inl l33)=>aG Γ (.exit 0) (Cs u [] [(PM (zi l33))])|(.inr (l34,l35,l36))=>aG Γ (.goto 0) (Oz EN J9 u [(8,(.vsl 25 l36.length))] [(5,.arr 1 164 64 (λi=>eB (l34.getD i false))),(Z96 l35),(AQ 25 l36)])) (λl32 y h=>tC h λc37_ h=>tC h λc38_ h=>tU q [2,5,6,7,8,9,41] J9 (c3 c37_ (Eq.refl 64) c38_) (gC h (λh=>tC h λc39_ h=>tC h λc40_ h=>tC h λc41_ h=>tU q cX J9 (c4 c39_ c40_ (Eq.refl 64) c41_) (tC h λc42_ h=>tC h λc43_ h=>tU q cX J9 (c4 c42_ (Eq.refl 64) c43_ (Eq.refl 64)) (M4 (Sp 6 (show ∀ k_,k_<64->AVleL ((λi_=>AV.eraseAll fx ((E0 (λi=>Ay (l32.getD i 0)) (nE l3).toNat 0 [(.int .i64 (w64 ((l32.getD (nE l3).toNat (0:Int))+1)))]) i_)) k_) ((λi=>Ay ((Qj 64 (0:Int) l32 (nE l3).toNat (w64 ((l32.getD (nE l3).toNat (0:Int))+1))).getD i 0)) k_) from(Bc rfl (λk_ hk_=>(Bx (AV.eraseAll fx) ((Xa (λ_ _=>rfl) (Qp c43_) rfl) k_ hk_)).trans rfl)))) (tC h λc44_ h=>tU q re J9 (c2 c44_ (Eq.refl 64)) (gC h (λh=>tC h λc45_ h=>tU q [2,5,6,7,8,10] J9 (c2 c45_ (Eq.refl 64)) (M4 (Sp 5 (show ∀ k_,k_<64->AVleL ((λi_=>AV.eraseAll fx ((E0 (yf l1) (rv v19 l3 l32).toNat 0 [(.bool true)]) i_)) k_) ((λi=>eB ((Qj 64 false l1 (rv v19 l3 l32).toNat true).getD i false)) k_) from(Bc rfl (λk_ hk_=>(Bx (AV.eraseAll fx) ((Xa (λ_ _=>rfl) (Qp c45_) rfl) k_ hk_)).trans rfl)))) (tC h λc46_ h=>gR q EN J9 [(65,(tc (rv v19 l3 l32)))] [] (c3 (Ca 1 Ay (0:Int) ([(rv v19 l3 l32)]:Am)) (Eq.refl l3.length) c46_) (tS h (gO (Bd (Le.trans (Le.trans (Sp 25 (show ∀ k_,k_<(l3.length+([(rv v19 l3 l32)]:Am).length)->AVleL ((λi_=>AV.eraseAll fx ((O4 l3.length (λi=>Ay (l3.getD i 0)) (λi=>Ay (([(rv v19 l3 l32)]:Am).getD i 0))) i_)) k_) ((λi=>Ay ((l3++([(rv v19 l3 l32)]:Am)).getD i 0)) k_) from(Bc (Ft _ _) (λk_ hk_=>(Bx (AV.eraseAll fx) ((IJ (λ_ _=>rfl) (λ_ _=>rfl)) k_ hk_)).trans rfl)))) (Sq (λ(k_:Nat) u=>(Cs u [(8,(.vsl 25 k_))] [(25,.arr 1 3 k_ (λi=>Ay ((l3++([(rv v19 l3 l32)]:Am)).getD i 0)))])) (show(l3.length+([(rv v19 l3 l32)]:Am).length)=(l3++([(rv v19 l3 l32)]:Am)).length from(Ft _ _)))) Jh))))))) λh=>tS h (gN (Bk GW J9 q))))))) λh=>tS h (gO (Bd (Bk GW J9 q))))) λx47 h=>(match x47,h with | .inl l33,h=>gA (tC h λc49_ h=>gR q EN J9 [(69,(tc (nE l3)))] [] (c3 (Ca 1 Ay (0:Int) ([(nE l3)]:Am)) (Eq.refl l4.length) c49_) (M4 (Le.trans (Sp 36007 (show ∀ k_,k_<(l4.length+([(nE l3)]:Am).length)->AVleL ((λi_=>AV.eraseAll fx ((O4 l4.length (λi=>Ay (l4.getD i 0)) (λi=>Ay (([(nE l3)]:Am).getD i 0))) i_)) k_) ((yg l4 l3) k_) from(Bc (Ft _ _) (λk_ hk_=>(Bx (AV.eraseAll fx) ((IJ (λ_ _=>rfl) (λ_ _=>rfl)) k_ hk_)).trans rfl)))) (Sq (λ(k_:Nat) u=>(Cs u [(Ue 36007 k_)] [(36007,.arr 1 3 k_ (yg l4 l3))])) (show(l4.length+([(nE l3)]:Am).length)=(nw l4 l3).length from(Ft _ _)))) (tC h λc50_ h=>tU q EN J9 (c1 c50_) (Ox (⟨[Tz,RK,RJ,(7,(.vsl 36007 (nw l4 l3).length)),(8,(.vsub 25 l3.length 0 (xB l3)))],[(Oi 72 (nt v19)),(RM (yf l1)),(PM (zi l33)),(AQ 25 l3),(36007,.arr 1 3 ((nw l4 l3).length) (yg l4 l3))],[]⟩:St) (M4 (Le.trans (Le.trans (eH (t:=8) (r:=25) (k:=(xB l3)) rfl rfl c50_.2 (by kernel_rfl) (.row (by kernel_rfl) (.arr (λ_=>by kernel_rfl) (.arr (λ_=>by kernel_rfl) (.arr (λ_=>by kernel_rfl) (.arr (λ_=>by kernel_rfl) .nil))))) (by rw[hΓ];rfl)) (Ib (st':=⟨[Tz,RK,RJ,(7,(.vsl 36007 (nw l4 l3).length)),(8,(.vsl 25 (xB l3)))],[(Oi 72 (nt v19)),(RM (yf l1)),(PM (zi l33)),(25,.arr 1 3 (xB l3) (λi=>Ay (l3.getD i 0))),(36007,.arr 1 3 ((nw l4 l3).length) (yg l4 l3))],[]⟩) (by kernel_rfl))) (Le.trans (J8 (st':=⟨[Tz,RK,RJ,(7,(.vsl 36007 (nw l4 l3).length)),(8,(.vsl 25 (xB l3)))],[(Oi 72 (nt v19)),(RM (yf l1)),(PM (zi l33)),(25,.arr 1 3 (xB l3) (λi=>Ay ((l3.take (w64 ((l3.length:Int)-1)).toNat).getD i 0))),(36007,.arr 1 3 ((nw l4 l3).length) (yg l4 l3))],[]⟩) (TmpsLe.refl _) (.same (.same (.same (.arr (kq (e:=Ay) (d:=(0:Int))) (.same .nil)))))) (Ib (Bx (λk_:Nat=>(⟨[Tz,RK,RJ,(7,(.vsl 36007 (nw l4 l3).length)),(8,(.vsl 25 k_))],[(Oi 72 (nt v19)),(RM (yf l1)),(PM (zi l33)),(25,.arr 1 3 k_ (λi=>Ay ((l3.take (w64 ((l3.length:Int)-1)).toNat).getD i 0))),(36007,.arr 1 3 ((nw l4 l3).length) (yg l4 l3))],[]⟩:St)) (show(xB l3)=(l3.take (w64 ((l3.length:Int)-1)).toNat).length from fb c50_.2))))) (Ae q [2,5,6,7,8,78] J9 (gC h (λh=>tS h (mG (Bk EN J9 q))) λh=>tB h λx51 y51 h=>tC h λc52_ h=>tT q [7] [36007] [⟨[(36007,34000)],[],(.tuple []),[(AQ 34000 x51)],[],[]⟩] (c1 (Oo y51)) (M4 (Sq (λ(k_:Nat) u=>(Cs u [(Ue 36007 k_)] [])) (show(nw l4 l3).length=x51.length from c52_)) (Ae q [4] [36007] (Ox ((oA 36007 x51.length x51):St) (tS h (WS (Lj (Ht [(36007,20000)] (Le.trans (F1 (nm:=36007) (sz:=1) (n:=x51.length) (e:=3) (f:=(λi=>Ay (x51.getD i 0))) (g:=(λi=>Ay (x51.getD i 0))) rfl ⟨rfl,trivial⟩ (λ_ _=>rfl) (by rw[hΓ];rfl)) (Ib (st':=(n9 x51 36007 x51.length)) (by kernel_rfl))))))))))))))))) | .inr ⟨l34,l35,l36⟩,h=>nJ (λst' hl53=>tS h (mG (Le.trans hl53 Jh)))))) (Pz (λst' hk=>tS h (gK hk))))
def JF(aM:Int)(aaC:Int):Option Hr:=
 (some ((Et ((Et ((Et ((O0 .u64 aM (32:Int))*(O0 .u64 aaC (32:Int))))+(O0 .u64 (Et ((Et ((O0 .u64 aM (32:Int))*(Lq .and .u64 aaC (4294967295:Int))))+(O0 .u64 (Et ((Lq .and .u64 aM (4294967295:Int))*(Lq .and .u64 aaC (4294967295:Int)))) (32:Int)))) (32:Int))))+(O0 .u64 (Et ((Lq .and .u64 (Et ((Et ((O0 .u64 aM (32:Int))*(Lq .and .u64 aaC (4294967295:Int))))+(O0 .u64 (Et ((Lq .and .u64 aM (4294967295:Int))*(Lq .and .u64 aaC (4294967295:Int)))) (32:Int)))) (4294967295:Int))+(Et ((Lq .and .u64 aM (4294967295:Int))*(O0 .u64 aaC (32:Int)))))) (32:Int)))),(Et (aM*aaC))))
variable{v20:Hr}
theorem XM(h:JF v4 v13=some v20):sP 135 (CA v4 v13) [] (.tuple (CA v20.1 v20.2)) []:=
 sG Tryz.func135 λΓ q=>tW q E6 [] [0,1,6] [] (tU q [0,1,6,7] [] (c1 (show(0<=(32:Int)) from(by decide))) (Ae q [0,1,6,7,8] [] (tU q [0,1,6,7,8,9] [] (c1 (show(0<=(32:Int)) from(by decide))) (Ae q [0,1,6,7,8,9,10] [] (tU q [0,1,6,7,9,11] [] (c1 (show(0<=(32:Int)) from(by decide))) (Ae q [0,1,6,7,9,11,12] [] (tU q [0,1,6,7,9,12,13] [] (c1 (show(0<=(32:Int)) from(by decide))) (Ae q [0,1,7,9,12,13] [] (tU q [0,1,4] [] (c1 (show(0<=(32:Int)) from(by decide))) (Ae q Ov [] (tS h (Bi []))))))))))))
def Pu(aM:Int)(aaC:Int):Option Hr:=
 ((JF aM aaC).bind λx1=>(some (x1.1,x1.2)))
theorem CX(h:Pu v4 v13=some v20):sP 103 (CA v4 v13) [] (.tuple (CA v20.1 v20.2)) []:=
 sG Tryz.func103 λΓ q=>Ae q E6 [] (CJ false (tB h λx1 y1 h=>tT q Sk [] [⟨[],[],(.tuple (CA x1.1 x1.2)),[],[],[]⟩] (c1 (XM y1)) (Ae q Ov [] (tS h (Bi [])))))
abbrev Xg:=(Int×Am)
abbrev qy:=(LR (Int×Am) Am)
def Dc :Xg->Option qy:=
 λ((i7,l8):Xg)=>(bif (decide (i7<(l8.length:Int))) then(Aw (0<=i7/\0+i7.toNat<=l8.length) (Aw (0<=i7/\0+i7.toNat<=l8.length) (some (.next ((w64 (i7+((Nat.min ((0+i7.toNat)-0) (l8.length-(0+i7.toNat))):Int))),(bc l8 (0+i7.toNat) (Nat.min ((0+i7.toNat)-0) (l8.length-(0+i7.toNat))) (λi=>l8.getD (0+i) 0))))))) else(some (.done l8)))
def ny(x3:Hr):=(List.replicate (w64 x3.2).toNat (0:Int))
def Q53(x3:Hr)(aM:Am):=(bc (ny x3) 0 (Nat.min aM.length ((ny x3).length-0)) (λi=>aM.getD i 0))
def Q52(l8:Am)(i7:Int):=(bc l8 (0+i7.toNat) (Nat.min ((0+i7.toNat)-0) (l8.length-(0+i7.toNat))) (λi=>l8.getD (0+i) 0))
def I6(aM:Am)(aa2:Int):Option Am:=
 (Option.bind (α:=Unit) (bif (decide (aa2<0)) then none else(some ())) (λx1=>(match x1 with|_=>((Pu (Et (aM.length:Int)) (Et aa2)).bind λx3=>(Option.bind (α:=Unit) (bif (bif (decide ((0:Int)<x3.1)) then true else(decide ((9223372036854775807:Int)<x3.2))) then none else(some ())) (λx4=>(match x4 with|_=>(Aw (0<=(w64 x3.2)/\(w64 x3.2)<=(w64 x3.2)/\(w64 x3.2)<=(room:Int)) ((Ac (S:=Xg) (X:=Am) Dc (((Nat.min aM.length ((List.replicate (w64 x3.2).toNat (0:Int)).length-0)):Int),(bc (List.replicate (w64 x3.2).toNat (0:Int)) 0 (Nat.min aM.length ((List.replicate (w64 x3.2).toNat (0:Int)).length-0)) (λi=>aM.getD i 0)))).bind (λx12=>(some x12)))))))))))
theorem Wi(h:I6 v0 v4=some v1):sP 121 [(Rp v0),(Ax v4)] [] (.vsl 20000 v1.length) [(AQ 20000 v1)]:=
 sG Tryz.func121 λΓ q=>gR q E6 [] [(4,oC)] [] (c1 (Bh 1 Ay (0:Int))) (tB h λx1 y1 h=>gJ y1 (λ_=>aG Γ .normal (⟨[(0,(Rp v0)),(1,(Ax v4))],[],[]⟩:St)) (λy h=>Ae q Y2 [] (gC h (λh=>nomatch h) λh=>tS h (gK (Bd (Bk E6 [] q))))) (gA (tB h λx3 y3 h=>tT q [0,5,6] [] [⟨[],[],(.tuple (CA x3.1 x3.2)),[],[],[]⟩] (c1 (CX y3)) (tB h λx4 y4 h=>gJ y4 (λ_=>aG Γ .normal (⟨[(0,(Rp v0)),(6,(Qh x3.2))],[],[]⟩:St)) (λy h=>tU q [0,6,26] [] (c2 (gI ((decide ((0:Int)<x3.1))==false)) (Ld (decide ((0:Int)<x3.1)))) (gC h (λh=>nomatch h) λh=>tS h (gK (Bd (Bk [0,6] [] q))))) (gA (tV q [0,7] [30] h λh=>by exact M4 (Le.trans (Sp 30 (show ∀ k_,k_<((w64 x3.2).toNat)->AVleL ((λi_=>AV.eraseAll (λn_=>B3 n_ [30]) ((λ_=>[Px]) i_)) k_) ((λi=>Ay ((ny x3).getD i 0)) k_) from(λk hk=>Mi (e:=Ay) (d:=(0:Int)) (.cons (AVle.refl _) .nil) _ k (Mn hk)))) (Sq (λ(k_:Nat) u=>(Cs u [(Ue 30 k_)] [(30,.arr 1 3 k_ (λi=>Ay ((ny x3).getD i 0)))])) (show(w64 x3.2).toNat=(ny x3).length from(K1 ..).symm))) (tU q Wp [30] (c1 (Eq.refl ((ny x3).length))) (M4 (Le.trans (Sp 30 (show ∀ k_,k_<((ny x3).length)->AVleL ((λi_=>AV.eraseAll (λn_=>B3 n_ [30]) ((dq (λi=>Ay ((ny x3).getD i 0)) 0 (Nat.min v0.length ((ny x3).length-0)) (λi=>Ay (v0.getD i 0))) i_)) k_) ((λi=>Ay ((Q53 x3 v0).getD i 0)) k_) from(Bc (Fy ..) (λk_ hk_=>(Bx (AV.eraseAll (λn_=>B3 n_ [30])) ((ET (e:=Ay) (d:=(0:Int)) (l:=(ny x3)) (s:=(λi=>v0.getD i 0)) (λ_ _=>rfl) (λ_ _=>rfl)) k_ hk_)).trans rfl)))) (Sq (λ(k_:Nat) u=>(Cs u [(Ue 30 k_)] [(30,.arr 1 3 k_ (λi=>Ay ((Q53 x3 v0).getD i 0)))])) (show(ny x3).length=(Q53 x3 v0).length from(Fy ..)))) (tL q h Wp [30] (λu (i7,l8)=>(Cs u [(Ue 30 l8.length),(8,(Ax i7))] [(AQ 30 l8)])) (λu l9=>aG Γ (.exit 0) (⟨[(Ue 30 l9.length)],[(AQ 30 l9)],[]⟩:St)) (λ⟨i7,l8⟩ y h=>Ae q [7,8,37] [30] (gC h (λh=>tC h λc10_ h=>tC h λc11_ h=>tU q Wp [30] (c4 c10_ c11_ (Eq.refl l8.length) (Eq.refl l8.length)) (tS h (gN (Le.trans (Le.trans (Sp 30 (show ∀ k_,k_<l8.length->AVleL ((λi_=>AV.eraseAll (λn_=>B3 n_ [30]) ((dq (λi=>Ay (l8.getD i 0)) (0+i7.toNat) (Nat.min ((0+i7.toNat)-0) (l8.length-(0+i7.toNat))) (λi=>(λi=>Ay (l8.getD i 0)) (0+i))) i_)) k_) ((λi=>Ay ((Q52 l8 i7).getD i 0)) k_) from(Bc (Fy ..) (λk_ hk_=>(Bx (AV.eraseAll (λn_=>B3 n_ [30])) ((ET (e:=Ay) (d:=(0:Int)) (l:=l8) (s:=(λi=>l8.getD (0+i) 0)) (λ_ _=>rfl) (λ_ _=>rfl)) k_ hk_)).trans rfl)))) (Sq (λ(k_:Nat) u=>(Cs u [(Ue 30 k_)] [(30,.arr 1 3 k_ (λi=>Ay ((Q52 l8 i7).getD i 0)))])) (show l8.length=(Q52 l8 i7).length from(Fy ..)))) Jh)))) λh=>tS h (gO (Bd (Bk [7] [30] q))))) λx12 h=>gA (Ae q [4] [30] (tS h (Bi jp))))))))))))
abbrev YF:=(Int×List Bool)
abbrev qz:=(LR (Int×List Bool) (List Bool))
def K6(aC:Am):YF->Option qz:=
 λ((i2,l3):YF)=>(bif (i2 !=-1) then(Aw (A0 i2 l3.length) (Aw (A0 i2 aC.length) (some (.next ((aC.getD i2.toNat 0),(l3.set i2.toNat true)))))) else(some (.done l3)))
def Ji(aC:Am)(l4:List Bool):Int->Option (LR Int Int):=
 λ(i9:Int)=>(Aw (A0 i9 l4.length) (bif (!(l4.getD i9.toNat false)) then(Aw (A0 i9 aC.length) (some (.next (aC.getD i9.toNat 0)))) else(some (.done i9))))
def R7(aC:Am)(aD:Int)(aE:Int):Option Int:=
 (Aw (0<=(aC.length:Int)/\(aC.length:Int)<=(aC.length:Int)/\(aC.length:Int)<=(room:Int)) ((Ac (K6 aC) (aD,(List.replicate (aC.length:Int).toNat false))).bind (λx7=>((Ac (Ji aC x7) aE).bind (λx13=>(some x13))))))
variable{v21:Int}
theorem NX(h:R7 v0 v4 v13=some v21):sP 160 [(Rp v0),(Ax v4),(Ax v13)] [] (.int .i64 v21) []:=
 sG Tryz.func160 λΓ q=>Ae q Zv [] (tV q [0,1,2,7] [11] h λh=>by exact M4 (Le.trans (Sp 11 (show ∀ k_,k_<((v0.length:Int).toNat)->AVleL ((λi_=>AV.eraseAll (λn_=>B3 n_ [11]) ((λ_=>[(.bool false)]) i_)) k_) ((λi=>eB ((List.replicate (v0.length:Int).toNat false).getD i false)) k_) from(λk hk=>Mi (e:=eB) (d:=false) (.cons (AVle.refl _) .nil) _ k (Mn hk)))) (Sq (λ(k_:Nat) u=>(Cs u [(Ue 11 k_)] [(11,.arr 1 4 k_ (λi=>eB ((List.replicate (v0.length:Int).toNat false).getD i false)))])) (show(v0.length:Int).toNat=(List.replicate (v0.length:Int).toNat false).length from(K1 ..).symm))) (Ae q cp [11] (tL q h cp [11] (λu (i2,l3)=>(Cs u [(Ue 11 l3.length),(8,(Ax i2))] [(lf 11 l3)])) (λu l4=>aG Γ (.exit 0) (Oz WH [11] u [(Ue 11 l4.length)] [(lf 11 l4)])) (λ⟨i2,l3⟩ y h=>Ae q [0,2,7,8,14] [11] (gC h (λh=>tC h λc5_ h=>tU q cp [11] (c2 c5_ (Eq.refl l3.length)) (M4 (Le.trans (Sp 11 (show ∀ k_,k_<l3.length->AVleL ((λi_=>AV.eraseAll (λn_=>B3 n_ [11]) ((E0 (λi=>eB (l3.getD i false)) i2.toNat 0 [(.bool true)]) i_)) k_) ((λi=>eB ((l3.set i2.toNat true).getD i false)) k_) from(Bc (Cm ..).symm (λk_ hk_=>(Bx (AV.eraseAll (λn_=>B3 n_ [11])) ((Fq (λ_ _=>rfl) (Gs c5_) rfl) k_ hk_)).trans rfl)))) (Sq (λ(k_:Nat) u=>(Cs u [(Ue 11 k_)] [(11,.arr 1 4 k_ (λi=>eB ((l3.set i2.toNat true).getD i false)))])) (show l3.length=(l3.set i2.toNat true).length from(Cm ..).symm))) (tV q cp [11] h λh=>tN h))) λh=>tS h (gO (Bd (Bk WH [11] q))))) λx7 h=>gA (tL q h WH [11] (λu i9=>(Cs u [(2,(Ax i9))] [])) (λu i10=>aG Γ (.exit 2) (⟨[(2,(Ax i10))],[],[]⟩:St)) (λi9 y h=>tC h λc11_ h=>tU q [0,2,7,26] [11] (c2 c11_ (Eq.refl x7.length)) (gC h (λh=>tV q WH [11] h λh=>tN h) λh=>tS h (gO (Bd (Bk [2] [] q))))) λx13 h=>gA (Ae q [6] [] (tS h (Bi [])))))))
set_option maxRecDepth 100000
set_option maxHeartbeats 2000000
def F5(aC:Am)(aJ:Am):Hr->Option sJ:=
 λ((i1,i2):Hr)=>(bif (decide (i2<(aJ.length:Int))) then(Option.bind (α:=Int) (Aw (A0 i2 aJ.length) (Aw (A0 (aJ.getD i2.toNat 0) aC.length) (bif ((aC.getD (aJ.getD i2.toNat 0).toNat (0:Int))==-2) then(some i1) else(bif (i1==-2) then(some (aJ.getD i2.toNat 0)) else((R7 aC i1 (aJ.getD i2.toNat 0)).bind λx7=>(some x7)))))) (λx8=>(some (.next (x8,(w64 (i2+1))))))) else(some (.done i1)))
def M3(aC:Am)(aJ:Am):Option Int:=
 ((Ac (F5 aC aJ) ((-2:Int),(0:Int))).bind (λx10=>(some x10)))
theorem DA(h:M3 v0 v1=some v4):sP 122 [(Rp v0),(Rp v1)] [] (.int .i64 v4) []:=
 sG Tryz.func122 λΓ q=>tW q E6 [] Qd [] (Ae q MX [] (tL q h MX [] (λu (i1,i2)=>(Cs u [(5,(Ax i1)),(C6 10 i2)] [])) (λu i3=>aG Γ (.exit 0) (⟨[(5,(Ax i3))],[],[]⟩:St)) (λ⟨i1,i2⟩ y h=>Ae q [0,5,8,9,10,11] [] (gC h (λh=>tB h λx8 y8 h=>gJ y8 (λi4=>aG Γ .normal (⟨[(0,(Rp v0)),(5,(Ax i4)),(8,(Rp v1)),(9,(Vc v1.length)),(C6 10 i2)],[],[]⟩:St)) (λy h=>tV q [0,5,7,8,9,10] [] h λh=>tV q [0,5,7,8,9,10,18] [] h λh=>gC h (λh=>tS h (gK (Bd (Bk MX [] q)))) λh=>Ae q [0,5,7,8,9,10,24] [] (gC h (λh=>Ae q MX [] (tS h (gK (Bd Jh)))) λh=>tB h λx7 y7 h=>tT q MX [] [(XA x7)] (c1 (NX y7)) (tS h (gK (Bd Jh))))) (gA (Ae q MX [] (tN h)))) λh=>tS h (gO (Bd (Bk [5] [] q))))) λx10 h=>gA (Ae q [4] [] (tS h (Bi [])))))
abbrev ve:=(Bool×Int×Am)
abbrev Abf:=(LR (Bool×Int×Am) (Bool×Am))
abbrev q8:=(Bool×Am)
def Fj(a9:TGraph)(x3:Am):ve->Option Abf:=
 λ((b7,i8,l9):ve)=>(bif (decide (i8<((x3.drop (1:Int).toNat).length:Int))) then(Option.bind (α:=q8) (Aw (A0 i8 (x3.drop (1:Int).toNat).length) (Aw (A0 ((x3.drop (1:Int).toNat).getD i8.toNat 0) a9.Pred.length) ((M3 l9 (a9.Pred.getD ((x3.drop (1:Int).toNat).getD i8.toNat 0).toNat [])).bind λx16=>(Aw (A0 ((x3.drop (1:Int).toNat).getD i8.toNat 0) l9.length) (bif (x16 !=(l9.getD ((x3.drop (1:Int).toNat).getD i8.toNat 0).toNat (0:Int))) then(Aw (A0 ((x3.drop (1:Int).toNat).getD i8.toNat 0) l9.length) (some (true,(l9.set ((x3.drop (1:Int).toNat).getD i8.toNat 0).toNat x16)))) else(some (b7,l9))))))) (λ(b12,l13)=>(some (.next (b12,(w64 (i8+1)),l13))))) else(some (.done (b7,l9))))
def V9(a9:TGraph)(l1:Am):ve->Option Abf:=
 λ((b24,i25,l26):ve)=>(bif (decide (i25<((l1.drop (1:Int).toNat).length:Int))) then(Option.bind (α:=q8) (Aw (A0 i25 (l1.drop (1:Int).toNat).length) (Aw (A0 ((l1.drop (1:Int).toNat).getD i25.toNat 0) a9.Pred.length) ((M3 l26 (a9.Pred.getD ((l1.drop (1:Int).toNat).getD i25.toNat 0).toNat [])).bind λx33=>(Aw (A0 ((l1.drop (1:Int).toNat).getD i25.toNat 0) l26.length) (bif (x33 !=(l26.getD ((l1.drop (1:Int).toNat).getD i25.toNat 0).toNat (0:Int))) then(Aw (A0 ((l1.drop (1:Int).toNat).getD i25.toNat 0) l26.length) (some (true,(l26.set ((l1.drop (1:Int).toNat).getD i25.toNat 0).toNat x33)))) else(some (b24,l26))))))) (λ(b29,l30)=>(some (.next (b29,(w64 (i25+1)),l30))))) else(some (.done (b24,l26))))
abbrev q9:=(Am×Am)
def H2(a9:TGraph):q9->Option (LR (Am×Am) Am):=
 λ(s_:q9)=>match s_ with|(l1,l2)=>(Aw (0<=(1:Int)/\(1:Int)<=(l1.length:Int)) ((Ac (V9 a9 l1) (false,(0:Int),l2)).bind (λx38=>(match x38 with|(b27,l28)=>(bif b27 then(some (.next (l1,l28))) else(some (.done l28)))))))
def gG(Γ:Il)(a9:TGraph)(aa4:Int)(r:Am):Exit->St->Prop:=fK Tryz.prog Γ Tryz.f91.results.toList [] (WP r 20000) [(20000,.tok 1 3 r.length)]
def yi:=(λn_=>B3 n_ [2,13,21])
def Q56:List YG:=[(4,oC)]
def Q55(x3:Am)(i8:Int):=((x3.drop (1:Int).toNat).getD i8.toNat 0)
def Q54(l1:Am)(i25:Int):=((l1.drop (1:Int).toNat).getD i25.toNat 0)
def Q57(a9:TGraph):List AV:=[(WQ a9.Succ),(WQ a9.Pred)]
def Q59:=(Z52:St)
def Ut(a9:TGraph)(aa4:Int):Option Am:=
 ((N6 (S:=q9) (X:=Am) ((K8 a9 aa4).bind λx3=>(bif ((x3.length:Int)==0) then(some (.done ([]:Am))) else((I6 ([(-2:Int)]:Am) (a9.Succ.length:Int)).bind λx4=>(Aw (A0 aa4 x4.length) (Aw (0<=(1:Int)/\(1:Int)<=(x3.length:Int)) ((Ac (Fj a9 x3) (false,(0:Int),(x4.set aa4.toNat (-1:Int)))).bind (λ(b10,l11)=>(bif b10 then(some (.next (x3,l11))) else(some (.done l11)))))))))) (H2 a9)).bind (λx40=>(some x40)))
theorem e7(h:Ut v19 v4=some v0):sP 91 (r9 v19 v4) [] (WP v0 20000) [(20000,.tok 1 3 v0.length)]:=
 sG Tryz.func91 λΓ q=>have hΓ:=q.own;gR q Pe [2] Q56 [] (c1 (Bh 1 Ay (0:Int))) (tB h λx40 y40 h=>gS y40 (λ(s_:q9)=>match s_ with|(l1,l2)=>0) (λ(s_:q9)=>match s_ with|(l1,l2)=>(⟨[Tz,(5,(WP l1 13)),(6,(.vsl 21 l2.length))],[(Oi 72 (Q57 v19)),(13,.tok 1 3 l1.length),(AQ 21 l2)],[]⟩:St)) (λr_=>aR (gG Γ v19 v4 r_)) (λy h=>tB h λx3 y3 h=>tT q Wl [2,13] [(Z72 13 x3 x3.length)] (c1 (DC y3)) (Ae q [1,2,5,16] [2,13] (gC h (λh=>gR q [4] [] Q56 [] (c1 (Bh 1 Ay (0:Int))) (Ox (⟨Q56,[],[]⟩:St) (tS h (WS (Lj (Ht cj (show Le Γ _ Q59 from Le.trans (Bk (st':=⟨Q56,[],[]⟩) [4] [] q) (Le.trans (Nl (t:=4) (nm:=6004) (sz':=1) (λi=>Ay (([]:Am).getD i 0)) 3 rfl rfl (.inl ⟨rfl,rfl⟩) (λh_=>absurd h_ (by decide))) (Bk (st':=Q59) [4] [6004] q))))))))) λh=>tB h λx4 y4 h=>gR q [1,2,5,6] Ka [(17,(AV.list 1 Ay 0 ([(-2:Int)]:Am) .exact))] [⟨[],[(20000,21)],(.vsl 20000 x4.length),[(AQ 20000 x4)],[],[]⟩] (c2 (Ca 1 Ay (0:Int) ([(-2:Int)]:Am)) (Wi y4)) (tC h λc5_ h=>tU q Xn Ka (c2 c5_ (Eq.refl x4.length)) (M4 (Le.trans (Sp 21 (show ∀ k_,k_<x4.length->AVleL ((λi_=>AV.eraseAll yi ((E0 (λi=>Ay (x4.getD i 0)) v4.toNat 0 [(.int .i64 (-1:Int))]) i_)) k_) ((λi=>Ay ((x4.set v4.toNat (-1:Int)).getD i 0)) k_) from(Bc (Cm ..).symm (λk_ hk_=>(Bx (AV.eraseAll yi) ((Fq (λ_ _=>rfl) (Gs c5_) rfl) k_ hk_)).trans rfl)))) (Sq (λ(k_:Nat) u=>(Cs u [(6,(.vsl 21 k_))] [(21,.arr 1 3 k_ (λi=>Ay ((x4.set v4.toNat (-1:Int)).getD i 0)))])) (show x4.length=(x4.set v4.toNat (-1:Int)).length from(Cm ..).symm))) (Ae q NC Ka (tC h λc6_ h=>gR q GV Ka [(26,(AV.list 1 Ay 0 (x3.drop (1:Int).toNat) .none))] [] (c2 c6_ (show(AVle (Z41 x3) (AV.list 1 Ay 0 (x3.drop (1:Int).toNat) .none)) from IK)) (tL q h GV Ka (λu (b7,i8,l9)=>(Cs u [(6,(.vsl 21 l9.length)),(7,(.bool b7)),(C6 28 i8)] [(AQ 21 l9)])) (λu (b10,l11)=>aG Γ (.exit 0) (Oz NC Ka u [(6,(.vsl 21 l11.length)),(7,(.bool b10))] [(AQ 21 l11)])) (λ⟨b7,i8,l9⟩ y h=>Ae q rU Ka (gC h (λh=>tB h λx19 y19 h=>gJ y19 (λ(b12,l13)=>aG Γ .normal (⟨[Tz,(5,(WP x3 13)),(6,(.vsl 21 l13.length)),(7,(.bool b12)),(26,(AV.list 1 Ay 0 (x3.drop (1:Int).toNat) .none)),(27,(.int .i64 ((x3.drop (1:Int).toNat).length:Int))),(C6 28 i8)],[(Oi 72 (Q57 v19)),(13,.tok 1 3 x3.length),(AQ 21 l13)],[]⟩:St)) (λy h=>tV q rV Ka h λh=>tC h λc15_ h=>tB h λx16 y16 h=>tT q rS Ka [⟨[],[],(Ax x16),[],[21],[]⟩] (c4 c15_ (DA y16) (show(NP []) from trivial) (Eq.refl l9.length)) (tC h λc17_ h=>tU q rP Ka (c2 c17_ (Eq.refl l9.length)) (gC h (λh=>tC h λc18_ h=>tU q GV Ka (c2 c18_ (Eq.refl l9.length)) (tS h (gK (Bd (Le.trans (Le.trans (Sp 21 (show ∀ k_,k_<l9.length->AVleL ((λi_=>AV.eraseAll yi ((E0 (λi=>Ay (l9.getD i 0)) (Q55 x3 i8).toNat 0 [(Ax x16)]) i_)) k_) ((λi=>Ay ((l9.set (Q55 x3 i8).toNat x16).getD i 0)) k_) from(Bc (Cm ..).symm (λk_ hk_=>(Bx (AV.eraseAll yi) ((Fq (λ_ _=>rfl) (Gs c18_) rfl) k_ hk_)).trans rfl)))) (Sq (λ(k_:Nat) u=>(Cs u [(6,(.vsl 21 k_))] [(21,.arr 1 3 k_ (λi=>Ay ((l9.set (Q55 x3 i8).toNat x16).getD i 0)))])) (show l9.length=(l9.set (Q55 x3 i8).toNat x16).length from(Cm ..).symm))) Jh))))) λh=>tS h (gK (Bd (Bk GV Ka q)))))) (match x19,h with|⟨b12,l13⟩,h=>gA (Ae q GV Ka (tN h)))) λh=>tS h (gO (Bd (Bk NC Ka q))))) λx21 h=>(match x21,h with|⟨b10,l11⟩,h=>gA (Ae q [2,5,6,50] Ka (gC h (λh=>tS h (mG (Bk Xn Ka q))) λh=>Ae q [4] [21] (Ox ((oA 21 l11.length l11):St) (tS h (WS (Lj (Ht [(21,20000)] (Le.trans (F1 (nm:=21) (sz:=1) (n:=l11.length) (e:=3) (f:=(λi=>Ay (l11.getD i 0))) (g:=(λi=>Ay (l11.getD i 0))) rfl ⟨rfl,trivial⟩ (λ_ _=>rfl) (by rw[hΓ];rfl)) (Ib (st':=(n9 l11 21 l11.length)) (by kernel_rfl))))))))))))))))))) (λ⟨l1,l2⟩ y h=>Ae q NC Ka (tC h λc23_ h=>gR q GV Ka [(26,(AV.list 1 Ay 0 (l1.drop (1:Int).toNat) .none))] [] (c2 c23_ (show(AVle (Z41 l1) (AV.list 1 Ay 0 (l1.drop (1:Int).toNat) .none)) from IK)) (tL q h GV Ka (λu (b24,i25,l26)=>(Cs u [(6,(.vsl 21 l26.length)),(7,(.bool b24)),(C6 28 i25)] [(AQ 21 l26)])) (λu (b27,l28)=>aG Γ (.exit 0) (Oz NC Ka u [(6,(.vsl 21 l28.length)),(7,(.bool b27))] [(AQ 21 l28)])) (λ⟨b24,i25,l26⟩ y h=>Ae q rU Ka (gC h (λh=>tB h λx36 y36 h=>gJ y36 (λ(b29,l30)=>aG Γ .normal (⟨[Tz,(5,(WP l1 13)),(6,(.vsl 21 l30.length)),(7,(.bool b29)),(26,(AV.list 1 Ay 0 (l1.drop (1:Int).toNat) .none)),(27,(.int .i64 ((l1.drop (1:Int).toNat).length:Int))),(C6 28 i25)],[(Oi 72 (Q57 v19)),(13,.tok 1 3 l1.length),(AQ 21 l30)],[]⟩:St)) (λy h=>tV q rV Ka h λh=>tC h λc32_ h=>tB h λx33 y33 h=>tT q rS Ka [⟨[],[],(Ax x33),[],[21],[]⟩] (c4 c32_ (DA y33) (show(NP []) from trivial) (Eq.refl l26.length)) (tC h λc34_ h=>tU q rP Ka (c2 c34_ (Eq.refl l26.length)) (gC h (λh=>tC h λc35_ h=>tU q GV Ka (c2 c35_ (Eq.refl l26.length)) (tS h (gK (Bd (Le.trans (Le.trans (Sp 21 (show ∀ k_,k_<l26.length->AVleL ((λi_=>AV.eraseAll yi ((E0 (λi=>Ay (l26.getD i 0)) (Q54 l1 i25).toNat 0 [(Ax x33)]) i_)) k_) ((λi=>Ay ((l26.set (Q54 l1 i25).toNat x33).getD i 0)) k_) from(Bc (Cm ..).symm (λk_ hk_=>(Bx (AV.eraseAll yi) ((Fq (λ_ _=>rfl) (Gs c35_) rfl) k_ hk_)).trans rfl)))) (Sq (λ(k_:Nat) u=>(Cs u [(6,(.vsl 21 k_))] [(21,.arr 1 3 k_ (λi=>Ay ((l26.set (Q54 l1 i25).toNat x33).getD i 0)))])) (show l26.length=(l26.set (Q54 l1 i25).toNat x33).length from(Cm ..).symm))) Jh))))) λh=>tS h (gK (Bd (Bk GV Ka q)))))) (match x36,h with|⟨b29,l30⟩,h=>gA (Ae q GV Ka (tN h)))) λh=>tS h (gO (Bd (Bk NC Ka q))))) λx38 h=>(match x38,h with|⟨b27,l28⟩,h=>gA (Ae q [2,5,6,50] Ka (gC h (λh=>tS h (mG (Bk Xn Ka q))) λh=>Ae q [4] [21] (Ox ((oA 21 l28.length l28):St) (tS h (WS (Lj (Ht [(21,20000)] (Le.trans (F1 (nm:=21) (sz:=1) (n:=l28.length) (e:=3) (f:=(λi=>Ay (l28.getD i 0))) (g:=(λi=>Ay (l28.getD i 0))) rfl ⟨rfl,trivial⟩ (λ_ _=>rfl) (by rw[hΓ];rfl)) (Ib (st':=(n9 l28 21 l28.length)) (by kernel_rfl)))))))))))))) (Pz (λst' hk=>tS h (gK hk))))
def Pw(aQ:List Fe)(aaG:Am):Int->Option (LR Int (Unit ⊕ Bool)):=
 λ(i1:Int)=>(bif (decide (i1<(aQ.length:Int))) then(Aw (A0 i1 aQ.length) ((G4 ((aQ.getD i1.toNat default).From) aaG).bind λx3=>(bif (bif (!x3) then true else((((aQ.getD i1.toNat default).Args).length:Int)!=(aaG.length:Int))) then(some (.done (.inr false))) else(some (.next (w64 (i1+1))))))) else(some (.done (.inl ()))))
def PF(Γ:Il)(aQ:List Fe)(aaG:Am)(r:Bool):Exit->St->Prop:=fK Tryz.prog Γ Tryz.f92.results.toList [] (.bool r) []
def Pl(aQ:List Fe)(aaG:Am):Option Bool:=
 ((Ac (Pw aQ aaG) (0:Int)).bind (λx4=>(match x4 with|(.inl _)=>(some true)|(.inr r6)=>(some r6))))
theorem LL(h:Pl v7 v0=some v5):sP 92 [(AV.list 4 Wx default v7 .none),(Rp v0)] [] (.bool v5) []:=
 sG Tryz.func92 λΓ q=>tW q E6 [] Nd [] (tL q h Nd [] (λu i1=>(Cs u [(9,(Ax i1))] [])) (λu x_=>match x_ with|(.inl _)=>aG Γ (.exit 0) (⟨[],[],[]⟩:St)|(.inr r_)=>aR (PF Γ v7 v0 r_)) (λi1 y h=>Ae q PC [] (gC h (λh=>tV q PD [6] h λh=>tB h λx3 y3 h=>tT q [1,7,8,9,25] [] [(Z8 x3)] (ci (P5 y3) (pI ((!x3)==false) (c1 (Ld (!x3))))) (gC h (λh=>Ae q [4] [] (tS h (gO (Lj (Ht [] (Le.refl _ _)))))) λh=>Ae q Nd [] (tN h))) λh=>tS h (gO (Bd (Bk [] [] q))))) λx4 h=>(match x4,h with | .inl _,h=>gA (Ae q [4] [] (tS h (Bi []))) | .inr r6,h=>Pz (λst' hk=>tS h (gK hk))))
def Q60(aL:L8):=(bif (aL.Kind==0) then true else(aL.Kind==2))
def Pk(aL:L8):Option Bool:=
 (some (bif (bif (aL.Kind==0) then true else(aL.Kind==2)) then true else(aL.Arg==0)))
theorem LK(h:Pk v10=some v5):sP 93 [(.agg (du v10))] [] (.bool v5) []:=
 sG Tryz.func93 λΓ q=>Ae q [1] [1] (tU q [2] [] (Lz ((v10.Kind==0)==false) (ci (Ld (v10.Kind==0)) (Lz ((Q60 v10)==false) (c1 (Ld (Q60 v10)))))) (tS h (Bi [])))
def Dj(a6:TFunc)(aB:Int)(a3:List Bj)(x1:nO)(x3:Am):Int->Option (LR Int (Unit ⊕ (Int×TFunc×Int×Am×List Bj))):=
 λ(i4:Int)=>(bif (decide (i4<(a6.Blocks.length:Int))) then(Aw (A0 i4 a6.Blocks.length) (Aw (A0 i4 x1.1.Pred.length) ((Pl ((a6.Blocks.getD i4.toNat default).Phis) (x1.1.Pred.getD i4.toNat [])).bind λx7=>((bif ((!x7)==false) then Pk (⟨(a6.Blocks.getD i4.toNat default).End.Kind,(a6.Blocks.getD i4.toNat default).End.Arg,(a6.Blocks.getD i4.toNat default).End.To⟩:L8) else some false).bind λx8=>(bif (bif (!x7) then true else(!x8)) then(some (.done (.inr ((5:Int),a6,aB,x3,a3)))) else(some (.next (w64 (i4+1))))))))) else(some (.done (.inl ()))))
def Xp(Γ:Il)(a6:TFunc)(aB:Int)(a2:Am)(a3:List Bj)(r:m9):Exit->St->Prop:=fK Tryz.prog Γ Tryz.f72.results.toList (Z3 a6.Params a6.Ret a6.Blocks aB a2 a3 a3.length) (Ax r.1) (Z3 r.2.1.Params r.2.1.Ret r.2.1.Blocks r.2.2.1 r.2.2.2.1 r.2.2.2.2 r.2.2.2.2.length)
def Q63(x1:nO):=((x1.2 !=0)==false)
def Q62(x3:Am)(a6:TFunc)(aB:Int)(a3:List Bj):List Uc:=[(31,.tok 1 3 x3.length),(30000,.row 109 [(Rp a6.Params),(Ax a6.Ret),(YL a6.Blocks),(Ax aB),(Rp x3),.nilm,(AV.list 5 Oj default a3 (.own 37006))]),(Ng 37006 152 a3.length)]
def Q61(x3:Am)(a6:TFunc)(aB:Int)(a3:List Bj):List Uc:=[(31,.tok 1 3 x3.length),(30000,.row 109 [(Rp a6.Params),(Ax a6.Ret),(YL a6.Blocks),(Ax aB),(WP x3 31),.nilm,(AV.list 5 Oj default a3 (.own 37006))]),(Ng 37006 152 a3.length)]
def Jc(a6:TFunc)(aB:Int)(a2:Am)(a3:List Bj):Option m9:=
 ((Yc a6).bind λx1=>((bif ((x1.2 !=0)==false) then K8 x1.1 (0:Int) else some []).bind λx2=>(bif (bif (x1.2 !=0) then true else(decide ((x2.length:Int)<(a6.Blocks.length:Int)))) then(some ((5:Int),a6,aB,a2,a3)) else((Ut x1.1 (0:Int)).bind λx3=>((Ac (Dj a6 aB a3 x1 x3) (0:Int)).bind (λx9=>(match x9 with|(.inl _)=>(some ((0:Int),a6,aB,x3,a3))|(.inr r11)=>(some r11))))))))
theorem W5(h:Jc v3 v4 v0 v14=some v15):sP 72 Y7 (Z3 v3.Params v3.Ret v3.Blocks v4 v0 v14 v14.length) (Ax v15.1) (Z3 v15.2.1.Params v15.2.1.Ret v15.2.1.Blocks v15.2.2.1 v15.2.2.2.1 v15.2.2.2.2 v15.2.2.2.2.length):=
 sG Tryz.func72 λΓ q=>Ae q [0] D4 (tB h λx1 y1 h=>tT q Ik VO [(n7 x1.1 x1.2)] (c1 (e8 y1)) (tB h λx2 y2 h=>tT q [0,3,28] VO [⟨[],[],(Rp x2),[],[],[]⟩] (SB (gI (Q63 x1)) (show((Q63 x1)=true->(sP 90 [(.agg (X0 x1.1)),Px] [] (Rp x2) [])) from(λhg=>(Spec.drop (DC (B0 hg y2))))) (gI8 (Q63 x1) (c1 (Ld (x1.2 !=0))))) (gC h (λh=>Ae q [2] D4 (tS h (Bi Zs))) λh=>tB h λx3 y3 h=>tT q Ou bG [(Z72 31 x3 x3.length)] (c1 (e7 y3)) (Ae q ji bG (tL q h ji bG (λu i4=>(Cs u [(C6 40 i4)] [])) (λu x_=>match x_ with|(.inl _)=>aG Γ (.exit 0) (Oz [] bI u [] [])|(.inr r_)=>aR (Xp Γ v3 v4 v0 v14 r_)) (λi4 y h=>Ae q [3,38,39,40,41] bG (gC h (λh=>tV q [3,5,6,38,39,40] [3,6,31,30000,37006] h λh=>tC h λc6_ h=>tB h λx7 y7 h=>tB h λx8 y8 h=>tT q [3,38,39,40,59] bG [(Z8 x7),(Z8 x8)] (SB c6_ (LL y7) (Lz ((!x7)==false) (c3 (λ(hg:((!x7)==false)=true)=>(LK (B0 hg y8))) (gI ((!x7)==false)) (Ld (!x7))))) (gC h (λh=>Ae q [2] bI (Ox (⟨[(2,nH)],(Q61 x3 v3 v4 v14),[]⟩:St) (tS h (gO (Lj (Ht Zs (show Le Γ _ (⟨[(2,nH)],(Q62 x3 v3 v4 v14),[]⟩:St) from Le.trans (Bk (st':=⟨[(2,nH)],(Q61 x3 v3 v4 v14),[]⟩) [2] bI q) (J8 (.cons (AVle.refl _) .nil) (.same (.row (.cons (AVle.refl _) (.cons (AVle.refl _) (.cons (AVle.refl _) (.cons (AVle.refl _) (.cons AVle.untag (.cons (AVle.refl _) (.cons (AVle.refl _) .nil))))))) (.same .nil))))))))))) λh=>Ae q ji bG (tN h))) λh=>tS h (gO (Bd (Bk [] bI q))))) λx9 h=>(match x9,h with | .inl _,h=>gA (Ae q [2] bI (Ox (⟨[(2,Px)],(Q61 x3 v3 v4 v14),[]⟩:St) (tS h (gK (e:=.ret) (Ht Zs (show Le Γ _ (⟨[(2,Px)],(Q62 x3 v3 v4 v14),[]⟩:St) from Le.trans (Bk (st':=⟨[(2,Px)],(Q61 x3 v3 v4 v14),[]⟩) [2] bI q) (J8 (.cons (AVle.refl _) .nil) (.same (.row (.cons (AVle.refl _) (.cons (AVle.refl _) (.cons (AVle.refl _) (.cons (AVle.refl _) (.cons AVle.untag (.cons (AVle.refl _) (.cons (AVle.refl _) .nil))))))) (.same .nil)))))))))) | .inr r11,h=>Pz (λst' hk=>tS h (gK hk))))))))
def Ep(aH:Int):Option Bool:=
 (Option.bind (α:=Bool) (bif (aH==1) then(some (aH==1)) else(bif (aH==8) then(some (aH==8)) else(bif (aH==16) then(some (aH==16)) else(bif (aH==32) then(some (aH==32)) else(some (aH==64)))))) (λx2=>(bif x2 then(some true) else(some false))))
theorem Gm(h:Ep v4=some v5):sP 79 [(Ax v4)] [] (.bool v5) []:=
 sG Tryz.func79 λΓ q=>tW q [0] [] [3] [] (tB h λx2 y2 h=>gJ y2 (λb1=>aG Γ .normal (⟨[(4,(.bool b1))],[],[]⟩:St)) (λy h=>Ae q [3,4] [] (gC h (λh=>tS h (gK (Bd (Bk [4] [] q)))) λh=>Ae q [3,4] [] (gC h (λh=>tS h (gK (Bd (Bk [4] [] q)))) λh=>Ae q [3,4] [] (gC h (λh=>tS h (gK (Bd (Bk [4] [] q)))) λh=>Ae q [3,4] [] (gC h (λh=>tS h (gK (Bd (Bk [4] [] q)))) λh=>Ae q [4] [] (tS h (gK (Bd Jh)))))))) (gA (gC h (λh=>Ae q [2] [] (tS h (Bi []))) λh=>Ae q [2] [] (tS h (Bi [])))))
def Pv(aJ:Am):Int->Option (LR Int (Unit ⊕ Bool)):=
 λ(i1:Int)=>(bif (decide (i1<(aJ.length:Int))) then(Aw (A0 i1 aJ.length) ((Ep (aJ.getD i1.toNat 0)).bind λx3=>(bif (!x3) then(some (.done (.inr false))) else(some (.next (w64 (i1+1))))))) else(some (.done (.inl ()))))
def PE(Γ:Il)(aJ:Am)(r:Bool):Exit->St->Prop:=fK Tryz.prog Γ Tryz.f94.results.toList [] (.bool r) []
def Pj(aJ:Am):Option Bool:=
 ((Ac (Pv aJ) (0:Int)).bind (λx4=>(match x4 with|(.inl _)=>(some true)|(.inr r6)=>(some r6))))
theorem LJ(h:Pj v0=some v5):sP 94 [(Rp v0),(.clo 79 [] [])] [] (.bool v5) []:=
 sG Tryz.func94 λΓ q=>tW q E6 [] Nd [] (tL q h Nd [] (λu i1=>(Cs u [(9,(Ax i1))] [])) (λu x_=>match x_ with|(.inl _)=>aG Γ (.exit 0) (⟨[],[],[]⟩:St)|(.inr r_)=>aR (PE Γ v0 r_)) (λi1 y h=>Ae q PC [] (gC h (λh=>tV q PD [] h λh=>tB h λx3 y3 h=>tT q WN [] [(Z8 x3)] (c1 (Gm y3)) (gC h (λh=>Ae q [4] [] (tS h (gO (Lj (Ht [] (Le.refl _ _)))))) λh=>Ae q Nd [] (tN h))) λh=>tS h (gO (Bd (Bk [] [] q))))) λx4 h=>(match x4,h with | .inl _,h=>gA (Ae q [4] [] (tS h (Bi []))) | .inr r6,h=>Pz (λst' hk=>tS h (gK hk))))
def R6(aa9:Fe):Option Bool:=
 ((Ep aa9.Bits).bind λx1=>(some x1))
theorem JL(h:R6 v6=some v5):sP 125 [(.agg (Wx v6))] [] (.bool v5) []:=
 sG Tryz.func125 λΓ q=>Ae q [1] [1] (tB h λx1 y1 h=>tT q [2] [] [(Z8 x1)] (c1 (Gm y1)) (tS h (Bi [])))
def Md(aJ:List Fe):Int->Option (LR Int (Unit ⊕ Bool)):=
 λ(i1:Int)=>(bif (decide (i1<(aJ.length:Int))) then(Aw (A0 i1 aJ.length) ((R6 (aJ.getD i1.toNat default)).bind λx3=>(bif (!x3) then(some (.done (.inr false))) else(some (.next (w64 (i1+1))))))) else(some (.done (.inl ()))))
def FL(Γ:Il)(aJ:List Fe)(r:Bool):Exit->St->Prop:=fK Tryz.prog Γ Tryz.f124.results.toList [] (.bool r) []
def Ll(aJ:List Fe):Option Bool:=
 ((Ac (Md aJ) (0:Int)).bind (λx4=>(match x4 with|(.inl _)=>(some true)|(.inr r6)=>(some r6))))
theorem CY(h:Ll v7=some v5):sP 124 [(AV.list 4 Wx default v7 .none),(.clo 125 [] [])] [] (.bool v5) []:=
 sG Tryz.func124 λΓ q=>tW q E6 [] Nd [] (tL q h Nd [] (λu i1=>(Cs u [(9,(Ax i1))] [])) (λu x_=>match x_ with|(.inl _)=>aG Γ (.exit 0) (⟨[],[],[]⟩:St)|(.inr r_)=>aR (FL Γ v7 r_)) (λi1 y h=>Ae q PC [] (gC h (λh=>tV q PD [6] h λh=>tB h λx3 y3 h=>tT q WN [] [(Z8 x3)] (c1 (JL y3)) (gC h (λh=>Ae q [4] [] (tS h (gO (Lj (Ht [] (Le.refl _ _)))))) λh=>Ae q Nd [] (tN h))) λh=>tS h (gO (Bd (Bk [] [] q))))) λx4 h=>(match x4,h with | .inl _,h=>gA (Ae q [4] [] (tS h (Bi []))) | .inr r6,h=>Pz (λst' hk=>tS h (gK hk))))
def Ss(aP:Int):Option Bool:=
 (some (bif (decide ((0:Int)<=aP)) then(decide (aP<=22)) else false))
theorem TM(h:Ss v4=some v5):sP 169 [(Ax v4)] [] (.bool v5) []:=
 sG Tryz.func169 λΓ q=>Ae q [0] [] (tU q [2] [] (c2 (gI ((decide ((0:Int)<=v4))==true)) (L0 (decide ((0:Int)<=v4)))) (tS h (Bi [])))
def Q64(x5:Bool)(aH:Int):=(bif x5 then(decide ((8:Int)<=aH)) else false)
def T4(aH:Int)(aU:Int):Option Bool:=
 (bif (aU==1) then((Ep aH).bind λx1=>(some x1)) else(Option.bind (α:=Bool) (bif (aU==2) then(some (aU==2)) else(bif (aU==4) then(some (aU==4)) else(bif (aU==8) then(some (aU==8)) else(some (aU==16))))) (λx3=>(bif x3 then((Ep aH).bind λx5=>(some (bif (bif x5 then(decide ((8:Int)<=aH)) else false) then(decide (((w64 (aH*aU)):Int)<=128)) else false))) else(some false)))))
theorem XU(h:T4 v4 v13=some v5):sP 170 [(Ax v4),(Ax v13)] [] (.bool v5) []:=
 sG Tryz.func170 λΓ q=>tW q E6 [] Qd [] (Ae q [0,1,5,6] [] (gC h (λh=>tB h λx1 y1 h=>tT q [4] [] [(Z8 x1)] (c1 (Gm y1)) (tS h (Bi []))) λh=>tB h λx3 y3 h=>gJ y3 (λb2=>aG Γ .normal (⟨[(0,(Ax v4)),(1,(Ax v13)),(10,(.bool b2))],[],[]⟩:St)) (λy h=>Ae q [0,1,5,10] [] (gC h (λh=>tS h (gK (Bd (Bk Y2 [] q)))) λh=>Ae q [0,1,5,10] [] (gC h (λh=>tS h (gK (Bd (Bk Y2 [] q)))) λh=>Ae q [0,1,5,10] [] (gC h (λh=>tS h (gK (Bd (Bk Y2 [] q)))) λh=>Ae q Y2 [] (tS h (gK (Bd Jh))))))) (gA (gC h (λh=>tB h λx5 y5 h=>tT q [4] [] [(Z8 x5)] (cu (Gm y5) (gI (x5==true)) (L0 x5) (Za ((Q64 x5 v4)==true) (c1 (L0 (Q64 x5 v4))))) (tS h (Bi []))) λh=>Ae q [4] [] (tS h (Bi []))))))
def Q65(a0:C5):List Uc:=[(Z90 a0.Kind a0.Bits a0.Lanes a0.Dst a0.Args a0.Imm)]
def Oa(a0:C5):Option Bool:=
 (Option.bind (α:=Bool) (bif (a0.Kind==16) then(some (a0.Kind==16)) else(some (a0.Kind==17))) (λx2=>(bif x2 then(some (decide ((8:Int)<=a0.Bits))) else(Option.bind (α:=Bool) (bif (a0.Kind==18) then(some (a0.Kind==18)) else(some (a0.Kind==19))) (λx5=>(bif x5 then(some (bif (decide ((8:Int)<=a0.Bits)) then(a0.Lanes==1) else false)) else(Option.bind (α:=Bool) (bif (a0.Kind==4) then(some (a0.Kind==4)) else(bif (a0.Kind==10) then(some (a0.Kind==10)) else(bif (a0.Kind==11) then(some (a0.Kind==11)) else(bif (a0.Kind==12) then(some (a0.Kind==12)) else(bif (a0.Kind==14) then(some (a0.Kind==14)) else(bif (a0.Kind==15) then(some (a0.Kind==15)) else(some (a0.Kind==20)))))))) (λx8=>(bif x8 then(some (a0.Lanes==1)) else(Option.bind (α:=Bool) (bif (a0.Kind==21) then(some (a0.Kind==21)) else(some (a0.Kind==22))) (λx11=>(bif x11 then(some (decide ((1:Int)<a0.Lanes))) else(some true)))))))))))))
theorem JN(h:Oa v8=some v5):sP 171 [(IH v8)] [] (.bool v5) []:=
 sG Tryz.func171 λΓ q=>tW q [1] [1] Rz [1] (tB h λx2 y2 h=>gJ y2 (λb1=>aG Γ .normal (⟨[FW,(4,(Ax v8.Kind)),(5,(.bool b1))],(Q65 v8),[]⟩:St)) (λy h=>Ae q [1,4,5] [1] (gC h (λh=>tS h (gK (Bd Jh))) λh=>Ae q [1,4,5] [1] (tS h (gK (Bd Jh))))) (gA (gC h (λh=>Ae q [2] [] (tS h (Bi []))) λh=>tB h λx5 y5 h=>gJ y5 (λb4=>aG Γ .normal (⟨[FW,(4,(Ax v8.Kind)),(11,(.bool b4))],(Q65 v8),[]⟩:St)) (λy h=>Ae q [1,4,11] [1] (gC h (λh=>tS h (gK (Bd Jh))) λh=>Ae q [1,4,11] [1] (tS h (gK (Bd Jh))))) (gA (gC h (λh=>tU q [2] [] (Lz ((decide ((8:Int)<=v8.Bits))==true) (c1 (L0 (decide ((8:Int)<=v8.Bits))))) (tS h (Bi []))) λh=>tB h λx8 y8 h=>gJ y8 (λb7=>aG Γ .normal (⟨[FW,(4,(Ax v8.Kind)),(22,(.bool b7))],(Q65 v8),[]⟩:St)) (λy h=>Ae q HY [1] (gC h (λh=>tS h (gK (Bd Jh))) λh=>Ae q HY [1] (gC h (λh=>tS h (gK (Bd Jh))) λh=>Ae q HY [1] (gC h (λh=>tS h (gK (Bd Jh))) λh=>Ae q HY [1] (gC h (λh=>tS h (gK (Bd Jh))) λh=>Ae q HY [1] (gC h (λh=>tS h (gK (Bd Jh))) λh=>Ae q HY [1] (gC h (λh=>tS h (gK (Bd Jh))) λh=>Ae q HY [1] (tS h (gK (Bd Jh)))))))))) (gA (gC h (λh=>Ae q [2] [] (tS h (Bi []))) λh=>tB h λx11 y11 h=>gJ y11 (λb10=>aG Γ .normal (⟨[FW,(33,(.bool b10))],(Q65 v8),[]⟩:St)) (λy h=>Ae q [1,4,33] [1] (gC h (λh=>tS h (gK (Bd (Bk [1,33] [1] q)))) λh=>Ae q [1,33] [1] (tS h (gK (Bd Jh))))) (gA (gC h (λh=>Ae q [2] [] (tS h (Bi []))) λh=>Ae q [2] [] (tS h (Bi [])))))))))))
def Fb(aK:Int)(aH:Int):Option Int:=
 ((Ep aH).bind λx1=>(bif (!x1) then(some (0:Int)) else(Aw (0<=(w64 ((64:Int)-aH))) (Aw (0<=(w64 ((64:Int)-aH))) (some (O0 .u64 (Tm .u64 aK (w64 ((64:Int)-aH))) (w64 ((64:Int)-aH))))))))
theorem N1(h:Fb v4 v13=some v21):sP 60 [(Qh v4),(Ax v13)] [] (.int .u64 v21) []:=
 sG Tryz.func60 λΓ q=>Ae q E6 [] (tB h λx1 y1 h=>tT q [0,1,7] [] [(Z8 x1)] (c1 (Gm y1)) (gC h (λh=>Ae q [4] [] (tS h (Bi []))) λh=>tC h λc2_ h=>tC h λc3_ h=>tU q [4] [] (c2 c2_ c3_) (tS h (Bi []))))
def Nt(aaH:Int):Option Bool:=
 ((bif ((decide (aaH<=64))==true) then Ep (w64 aaH) else some false).bind λx1=>(some (bif (decide (aaH<=64)) then x1 else false)))
theorem Zk(h:Nt v4=some v5):sP 190 [(Qh v4)] [] (.bool v5) []:=
 sG Tryz.func190 λΓ q=>Ae q [0] [] (tB h λx1 y1 h=>tT q [2] [] [(Z8 x1)] (Lz ((decide (v4<=64))==true) (c2 (λ(hg:((decide (v4<=64))==true)=true)=>(Gm (B0 hg y1))) (L0 (decide (v4<=64))))) (tS h (Bi [])))
def Q1(a0:C5):Option Bool:=
 (bif (a0.Kind==0) then((Fb a0.Imm a0.Bits).bind λx1=>(some (x1==a0.Imm))) else(bif (a0.Kind==14) then((Nt a0.Imm).bind λx2=>(some (bif x2 then(decide (a0.Imm<(Et a0.Bits))) else false))) else(bif (a0.Kind==15) then((Nt a0.Imm).bind λx3=>(some (bif x3 then(decide (((Et a0.Bits):Int)<a0.Imm)) else false))) else(bif (a0.Kind==22) then(some (decide (a0.Imm<(Et a0.Lanes)))) else(some (a0.Imm==0))))))
theorem PT(h:Q1 v8=some v5):sP 172 [(IH v8)] [] (.bool v5) []:=
 sG Tryz.func172 λΓ q=>tW q [1] [1] Rz [1] (Ae q [1,4,5] [1] (gC h (λh=>tB h λx1 y1 h=>tT q [2] [] [(WZ x1)] (c1 (N1 y1)) (tS h (Bi []))) λh=>Ae q [1,4,15] [1] (gC h (λh=>tB h λx2 y2 h=>tT q [2] [] [(Z8 x2)] (ci (Zk y2) (pI (x2==true) (c1 (L0 x2)))) (tS h (Bi []))) λh=>Ae q [1,4,28] [1] (gC h (λh=>tB h λx3 y3 h=>tT q [2] [] [(Z8 x3)] (ci (Zk y3) (pI (x3==true) (c1 (L0 x3)))) (tS h (Bi []))) λh=>Ae q [1,41] [1] (gC h (λh=>Ae q [2] [] (tS h (Bi []))) λh=>Ae q [2] [] (tS h (Bi [])))))))
abbrev MJ:=((Int×Int))
abbrev rA:=(List (Int×Int))
def I9(aaL:List MJ):Option rA:=
 (some aaL)
variable{v22:List MJ}{v23:List MJ}
theorem Jj(h:I9 v22=some v23):sP 175 [(ta v22)] [] (ta v23) []:=
 sG Tryz.func175 λΓ q=>gR q [0] [] [(2,Z61)] [] (c1 (Bh 2 Bs ((0:Int),(0:Int)))) (Ae q [2] [] (tS h (Bi [])))
abbrev yY:=(Int×List (Int×Int))
def Db :yY->Option (LR (Int×List (Int×Int)) (List (Int×Int))):=
 λ((i7,l8):yY)=>(bif (decide (i7<(l8.length:Int))) then(Aw (0<=i7/\0+i7.toNat<=l8.length) (Aw (0<=i7/\0+i7.toNat<=l8.length) (some (.next ((w64 (i7+((Nat.min ((0+i7.toNat)-0) (l8.length-(0+i7.toNat))):Int))),(bc l8 (0+i7.toNat) (Nat.min ((0+i7.toNat)-0) (l8.length-(0+i7.toNat))) (λi=>l8.getD (0+i) ((0:Int),(0:Int))))))))) else(some (.done l8)))
def nz(x3:Hr):=(List.replicate (w64 x3.2).toNat ((0:Int),(0:Int)))
def Q68(x3:Hr)(aM:List MJ):=(bc (nz x3) 0 (Nat.min aM.length ((nz x3).length-0)) (λi=>aM.getD i ((0:Int),(0:Int))))
def Q67(l8:List MJ)(i7:Int):=(bc l8 (0+i7.toNat) (Nat.min ((0+i7.toNat)-0) (l8.length-(0+i7.toNat))) (λi=>l8.getD (0+i) ((0:Int),(0:Int))))
def Cg(aM:List MJ)(aa2:Int):Option rA:=
 (Option.bind (α:=Unit) (bif (decide (aa2<0)) then none else(some ())) (λx1=>(match x1 with|_=>((Pu (Et (aM.length:Int)) (Et aa2)).bind λx3=>(Option.bind (α:=Unit) (bif (bif (decide ((0:Int)<x3.1)) then true else(decide ((9223372036854775807:Int)<x3.2))) then none else(some ())) (λx4=>(match x4 with|_=>(Aw (0<=(w64 x3.2)/\(w64 x3.2)<=(w64 x3.2)/\(w64 x3.2)<=(room:Int)) ((Ac (S:=yY) (X:=List Hr) Db (((Nat.min aM.length ((List.replicate (w64 x3.2).toNat ((0:Int),(0:Int))).length-0)):Int),(bc (List.replicate (w64 x3.2).toNat ((0:Int),(0:Int))) 0 (Nat.min aM.length ((List.replicate (w64 x3.2).toNat ((0:Int),(0:Int))).length-0)) (λi=>aM.getD i ((0:Int),(0:Int)))))).bind (λx12=>(some x12)))))))))))
theorem Tl(h:Cg v22 v4=some v23):sP 176 [(ta v22),(Ax v4)] [] (xP v23 20000) [(20000,.tok 2 63 v23.length)]:=
 sG Tryz.func176 λΓ q=>have hΓ:=q.own;gR q E6 [] [(4,Z61)] [] (c1 (Bh 2 Bs ((0:Int),(0:Int)))) (tB h λx1 y1 h=>gJ y1 (λ_=>aG Γ .normal (⟨[(0,(ta v22)),(1,(Ax v4))],[],[]⟩:St)) (λy h=>Ae q Y2 [] (gC h (λh=>nomatch h) λh=>tS h (gK (Bd (Bk E6 [] q))))) (gA (tB h λx3 y3 h=>tT q [0,5,6] [] [⟨[],[],(.tuple (CA x3.1 x3.2)),[],[],[]⟩] (c1 (CX y3)) (tB h λx4 y4 h=>gJ y4 (λ_=>aG Γ .normal (⟨[(0,(ta v22)),(6,(Qh x3.2))],[],[]⟩:St)) (λy h=>tU q [0,6,26] [] (c2 (gI ((decide ((0:Int)<x3.1))==false)) (Ld (decide ((0:Int)<x3.1)))) (gC h (λh=>nomatch h) λh=>tS h (gK (Bd (Bk [0,6] [] q))))) (gA (tV q [0,7] [30] h λh=>by exact M4 (Le.trans (Sp 30 (show ∀ k_,k_<((w64 x3.2).toNat)->AVleL ((λi_=>AV.eraseAll (λn_=>B3 n_ [30]) ((λ_=>[Px,Px]) i_)) k_) ((λi=>Bs ((nz x3).getD i ((0:Int),(0:Int)))) k_) from(λk hk=>Mi (e:=Bs) (d:=((0:Int),(0:Int))) (.cons (AVle.refl _) (.cons (AVle.refl _) .nil)) _ k (Mn hk)))) (Sq (λ(k_:Nat) u=>(Cs u [(Ue 30 k_)] [(30,.arr 2 63 k_ (λi=>Bs ((nz x3).getD i ((0:Int),(0:Int)))))])) (show(w64 x3.2).toNat=(nz x3).length from(K1 ..).symm))) (tU q Wp [30] (c1 (Eq.refl ((nz x3).length))) (M4 (Le.trans (Sp 30 (show ∀ k_,k_<((nz x3).length)->AVleL ((λi_=>AV.eraseAll (λn_=>B3 n_ [30]) ((dq (λi=>Bs ((nz x3).getD i ((0:Int),(0:Int)))) 0 (Nat.min v22.length ((nz x3).length-0)) (λi=>Bs (v22.getD i ((0:Int),(0:Int))))) i_)) k_) ((λi=>Bs ((Q68 x3 v22).getD i ((0:Int),(0:Int)))) k_) from(Bc (Fy ..) (λk_ hk_=>(Bx (AV.eraseAll (λn_=>B3 n_ [30])) ((ET (e:=Bs) (d:=((0:Int),(0:Int))) (l:=(nz x3)) (s:=(λi=>v22.getD i ((0:Int),(0:Int)))) (λ_ _=>rfl) (λ_ _=>rfl)) k_ hk_)).trans rfl)))) (Sq (λ(k_:Nat) u=>(Cs u [(Ue 30 k_)] [(30,.arr 2 63 k_ (λi=>Bs ((Q68 x3 v22).getD i ((0:Int),(0:Int)))))])) (show(nz x3).length=(Q68 x3 v22).length from(Fy ..)))) (tL q h Wp [30] (λu (i7,l8)=>(Cs u [(Ue 30 l8.length),(8,(Ax i7))] (xI l8))) (λu l9=>aG Γ (.exit 0) (⟨[(Ue 30 l9.length)],(xI l9),[]⟩:St)) (λ⟨i7,l8⟩ y h=>Ae q [7,8,37] [30] (gC h (λh=>tC h λc10_ h=>tC h λc11_ h=>tU q Wp [30] (c4 c10_ c11_ (Eq.refl l8.length) (Eq.refl l8.length)) (tS h (gN (Le.trans (Le.trans (Sp 30 (show ∀ k_,k_<l8.length->AVleL ((λi_=>AV.eraseAll (λn_=>B3 n_ [30]) ((dq (λi=>Bs (l8.getD i ((0:Int),(0:Int)))) (0+i7.toNat) (Nat.min ((0+i7.toNat)-0) (l8.length-(0+i7.toNat))) (λi=>(λi=>Bs (l8.getD i ((0:Int),(0:Int)))) (0+i))) i_)) k_) ((λi=>Bs ((Q67 l8 i7).getD i ((0:Int),(0:Int)))) k_) from(Bc (Fy ..) (λk_ hk_=>(Bx (AV.eraseAll (λn_=>B3 n_ [30])) ((ET (e:=Bs) (d:=((0:Int),(0:Int))) (l:=l8) (s:=(λi=>l8.getD (0+i) ((0:Int),(0:Int)))) (λ_ _=>rfl) (λ_ _=>rfl)) k_ hk_)).trans rfl)))) (Sq (λ(k_:Nat) u=>(Cs u [(Ue 30 k_)] [(30,.arr 2 63 k_ (λi=>Bs ((Q67 l8 i7).getD i ((0:Int),(0:Int)))))])) (show l8.length=(Q67 l8 i7).length from(Fy ..)))) Jh)))) λh=>tS h (gO (Bd (Bk [7] [30] q))))) λx12 h=>gA (Ae q [4] [30] (Ox (⟨[(4,(.vsl 30 x12.length))],(xI x12),[]⟩:St) (tS h (gK (e:=.ret) (Ht jp (Le.trans (F1 (nm:=30) (sz:=2) (n:=x12.length) (e:=63) (f:=(λi=>Bs (x12.getD i ((0:Int),(0:Int))))) (g:=(λi=>Bs (x12.getD i ((0:Int),(0:Int))))) rfl ⟨rfl,trivial⟩ (λ_ _=>rfl) (by rw[hΓ];rfl)) (Ib (st':=⟨[(4,(xP x12 30))],[(30,.tok 2 63 x12.length)],[]⟩) (by kernel_rfl)))))))))))))))))
def Q69(a0:C5):List Uc:=[(Z90 a0.Kind a0.Bits a0.Lanes a0.Dst a0.Args a0.Imm),(3,.row 63 [RN,RN]),(4,.row 63 [(Vc 64),RN]),(5,.row 63 [(Ax a0.Bits),(Ax a0.Lanes)]),(6,.row 63 [(Ax a0.Bits),RN])]
def Q2(a0:C5):Option rA:=
 (bif (a0.Kind==0) then((I9 ([]:List Hr)).bind λx1=>(some x1)) else(bif (a0.Kind==13) then((I9 ([((1:Int),(1:Int)),(a0.Bits,a0.Lanes),(a0.Bits,a0.Lanes)]:List Hr)).bind λx2=>(some x2)) else(Option.bind (α:=Bool) (bif (a0.Kind==14) then(some (a0.Kind==14)) else(some (a0.Kind==15))) (λx4=>(bif x4 then((I9 ([((w64 a0.Imm),(1:Int))]:List Hr)).bind λx6=>(some x6)) else(bif (a0.Kind==16) then((I9 ([((64:Int),(1:Int))]:List Hr)).bind λx7=>(some x7)) else(bif (a0.Kind==17) then((I9 ([((64:Int),(1:Int)),(a0.Bits,a0.Lanes)]:List Hr)).bind λx8=>(some x8)) else(Option.bind (α:=Bool) (bif (a0.Kind==18) then(some (a0.Kind==18)) else(some (a0.Kind==19))) (λx10=>(bif x10 then((I9 ([((1:Int),(1:Int)),((64:Int),(1:Int)),(a0.Bits,(1:Int))]:List Hr)).bind λx12=>(some x12)) else(bif (a0.Kind==20) then((I9 ([((1:Int),(1:Int)),(a0.Bits,(1:Int)),(a0.Bits,(1:Int)),(a0.Bits,(1:Int))]:List Hr)).bind λx13=>(some x13)) else(bif (a0.Kind==21) then((Cg ([(a0.Bits,(1:Int))]:List Hr) a0.Lanes).bind λx14=>((I9 x14).bind λx15=>(some x15))) else(bif (a0.Kind==22) then((I9 ([(a0.Bits,a0.Lanes)]:List Hr)).bind λx16=>(some x16)) else((I9 ([(a0.Bits,a0.Lanes),(a0.Bits,a0.Lanes)]:List Hr)).bind λx17=>(some x17)))))))))))))))
theorem GI(h:Q2 v8=some v22):sP 164 [(IH v8)] [] (ta v22) []:=
 sG Tryz.func164 λΓ q=>gR q [1] [1] [(2,Z61)] [] (c1 (Bh 2 Bs ((0:Int),(0:Int)))) (tW q Fd Fd Te Te (tW q [1,3,4,5,6,18] Te [1,3,4,5,6,18,19] Te (gC h (λh=>tB h λx1 y1 h=>tT q [2] [] [(lh x1)] (c1 (show(sP 175 [(.slice 0 0 (λ_=>[]) .none)] [] (ta x1) []) from(Spec.args (.cons IL .nil) (Jj y1)))) (tS h (Bi []))) λh=>Ae q [1,3,4,5,6,18,22] Te (gC h (λh=>tB h λx2 y2 h=>gR q [2] [] [(27,(AV.list 2 Bs ((0:Int),(0:Int)) ([((1:Int),(1:Int)),(v8.Bits,v8.Lanes),(v8.Bits,v8.Lanes)]:List Hr) .exact))] [(lh x2)] (c2 (Ca 2 Bs ((0:Int),(0:Int)) ([((1:Int),(1:Int)),(v8.Bits,v8.Lanes),(v8.Bits,v8.Lanes)]:List Hr)) (Jj y2)) (tS h (Bi []))) λh=>tB h λx4 y4 h=>gJ y4 (λb3=>aG Γ .normal (⟨[FW,(3,(.ptr 3 0)),(4,(.ptr 4 0)),PN,(6,(.ptr 6 0)),(C6 18 v8.Kind),(29,(.bool b3))],(Q69 v8),[]⟩:St)) (λy h=>Ae q [1,3,4,5,6,18,29] Te (gC h (λh=>tS h (gK (Bd Jh))) λh=>Ae q [1,3,4,5,6,18,29] Te (tS h (gK (Bd Jh))))) (gA (gC h (λh=>tB h λx6 y6 h=>gR q [2] [] [(36,(AV.list 2 Bs ((0:Int),(0:Int)) ([((w64 v8.Imm),(1:Int))]:List Hr) .exact))] [(lh x6)] (c2 (Ca 2 Bs ((0:Int),(0:Int)) ([((w64 v8.Imm),(1:Int))]:List Hr)) (Jj y6)) (tS h (Bi []))) λh=>Ae q [1,3,4,5,6,18,38] Te (gC h (λh=>tB h λx7 y7 h=>gR q [2] [] [(41,(AV.list 2 Bs ((0:Int),(0:Int)) ([((64:Int),(1:Int))]:List Hr) .exact))] [(lh x7)] (c2 (Ca 2 Bs ((0:Int),(0:Int)) ([((64:Int),(1:Int))]:List Hr)) (Jj y7)) (tS h (Bi []))) λh=>Ae q [1,3,4,5,6,18,43] Te (gC h (λh=>tB h λx8 y8 h=>gR q [2] [] [(47,(AV.list 2 Bs ((0:Int),(0:Int)) ([((64:Int),(1:Int)),(v8.Bits,v8.Lanes)]:List Hr) .exact))] [(lh x8)] (c2 (Ca 2 Bs ((0:Int),(0:Int)) ([((64:Int),(1:Int)),(v8.Bits,v8.Lanes)]:List Hr)) (Jj y8)) (tS h (Bi []))) λh=>tB h λx10 y10 h=>gJ y10 (λb9=>aG Γ .normal (⟨[FW,(3,(.ptr 3 0)),(4,(.ptr 4 0)),PN,(6,(.ptr 6 0)),(C6 18 v8.Kind),(49,(.bool b9))],(Q69 v8),[]⟩:St)) (λy h=>Ae q [1,3,4,5,6,18,49] Te (gC h (λh=>tS h (gK (Bd Jh))) λh=>Ae q [1,3,4,5,6,18,49] Te (tS h (gK (Bd Jh))))) (gA (gC h (λh=>tB h λx12 y12 h=>gR q [2] [] [(55,(AV.list 2 Bs ((0:Int),(0:Int)) ([((1:Int),(1:Int)),((64:Int),(1:Int)),(v8.Bits,(1:Int))]:List Hr) .exact))] [(lh x12)] (c2 (Ca 2 Bs ((0:Int),(0:Int)) ([((1:Int),(1:Int)),((64:Int),(1:Int)),(v8.Bits,(1:Int))]:List Hr)) (Jj y12)) (tS h (Bi []))) λh=>Ae q [1,3,5,6,18,57] KI (gC h (λh=>tB h λx13 y13 h=>gR q [2] [] [(63,(AV.list 2 Bs ((0:Int),(0:Int)) ([((1:Int),(1:Int)),(v8.Bits,(1:Int)),(v8.Bits,(1:Int)),(v8.Bits,(1:Int))]:List Hr) .exact))] [(lh x13)] (c2 (Ca 2 Bs ((0:Int),(0:Int)) ([((1:Int),(1:Int)),(v8.Bits,(1:Int)),(v8.Bits,(1:Int)),(v8.Bits,(1:Int))]:List Hr)) (Jj y13)) (tS h (Bi []))) λh=>Ae q [1,5,6,18,65] [1,5,6] (gC h (λh=>tB h λx14 y14 h=>tB h λx15 y15 h=>gR q [2] [] [(68,(AV.list 2 Bs ((0:Int),(0:Int)) ([(v8.Bits,(1:Int))]:List Hr) .exact))] [⟨[],[(20000,71)],(xP x14 20000),[(20000,.tok 2 63 x14.length)],[],[]⟩,(lh x15)] (c3 (Ca 2 Bs ((0:Int),(0:Int)) ([(v8.Bits,(1:Int))]:List Hr)) (Tl y14) (Jj y15)) (tS h (Bi []))) λh=>Ae q [5,73] [5] (gC h (λh=>tB h λx16 y16 h=>gR q [2] [] [(76,(AV.list 2 Bs ((0:Int),(0:Int)) ([(v8.Bits,v8.Lanes)]:List Hr) .exact))] [(lh x16)] (c2 (Ca 2 Bs ((0:Int),(0:Int)) ([(v8.Bits,v8.Lanes)]:List Hr)) (Jj y16)) (tS h (Bi []))) λh=>tB h λx17 y17 h=>gR q [2] [] [(80,(AV.list 2 Bs ((0:Int),(0:Int)) ([(v8.Bits,v8.Lanes),(v8.Bits,v8.Lanes)]:List Hr) .exact))] [(lh x17)] (c2 (Ca 2 Bs ((0:Int),(0:Int)) ([(v8.Bits,v8.Lanes),(v8.Bits,v8.Lanes)]:List Hr)) (Jj y17)) (tS h (Bi [])))))))))))))))
def Ns(aK:Int):Option Bool:=
 (some (bif (decide ((1:Int)<=aK)) then(decide (aK<=1023)) else false))
theorem Zj(h:Ns v4=some v5):sP 191 [(Ax v4)] [] (.bool v5) []:=
 sG Tryz.func191 λΓ q=>Ae q [0] [] (tU q [2] [] (c2 (gI ((decide ((1:Int)<=v4))==true)) (L0 (decide ((1:Int)<=v4)))) (tS h (Bi [])))
def Kq(a0:C5):Int->Option (LR Int (Unit ⊕ Bool)):=
 λ(i2:Int)=>(bif (decide (i2<(a0.Args.length:Int))) then(Aw (A0 i2 a0.Args.length) ((Ns (a0.Args.getD i2.toNat 0)).bind λx4=>(bif (!x4) then(some (.done (.inr false))) else(some (.next (w64 (i2+1))))))) else(some (.done (.inl ()))))
def QY(Γ:Il)(a0:C5)(r:Bool):Exit->St->Prop:=fK Tryz.prog Γ Tryz.f173.results.toList [] (.bool r) []
def Qy(a0:C5):Option Bool:=
 ((Q2 a0).bind λx1=>(bif ((a0.Args.length:Int)!=(x1.length:Int)) then(some false) else((Ac (Kq a0) (0:Int)).bind (λx5=>(match x5 with|(.inl _)=>(some true)|(.inr r7)=>(some r7))))))
theorem PR(h:Qy v8=some v5):sP 173 [(IH v8)] [] (.bool v5) []:=
 sG Tryz.func173 λΓ q=>Ae q [1] [1] (tB h λx1 y1 h=>tT q [1,11] [1] [(lh x1)] (c1 (GI y1)) (gC h (λh=>Ae q [2] [] (tS h (Bi []))) λh=>Ae q [13,14,15] [] (tL q h [13,14,15] [] (λu i2=>(Cs u [(C6 15 i2)] [])) (λu x_=>match x_ with|(.inl _)=>aG Γ (.exit 0) (⟨[],[],[]⟩:St)|(.inr r_)=>aR (QY Γ v8 r_)) (λi2 y h=>Ae q [13,14,15,16] [] (gC h (λh=>tV q [4,13,14,15] [] h λh=>tB h λx4 y4 h=>tT q [13,14,15,21] [] [(Z8 x4)] (c1 (Zj y4)) (gC h (λh=>Ae q [2] [] (tS h (gO (Lj (Ht [] (Le.refl _ _)))))) λh=>Ae q [13,14,15] [] (tN h))) λh=>tS h (gO (Bd (Bk [] [] q))))) λx5 h=>(match x5,h with | .inl _,h=>gA (Ae q [2] [] (tS h (Bi []))) | .inr r7,h=>Pz (λst' hk=>tS h (gK hk))))))
def Q70(a0:C5):List Uc:=[(Z90 a0.Kind a0.Bits a0.Lanes a0.Dst a0.Args a0.Imm)]
def Q0(a0:C5):Option Hr:=
 (Option.bind (α:=Bool) (bif (a0.Kind==17) then(some (a0.Kind==17)) else(some (a0.Kind==19))) (λx2=>(bif x2 then(some ((0:Int),(0:Int))) else(Option.bind (α:=Bool) (bif (a0.Kind==10) then(some (a0.Kind==10)) else(bif (a0.Kind==11) then(some (a0.Kind==11)) else(some (a0.Kind==12)))) (λx5=>(bif x5 then(some ((1:Int),(1:Int))) else(bif (a0.Kind==22) then(some (a0.Bits,(1:Int))) else(some (a0.Bits,a0.Lanes)))))))))
theorem GH(h:Q0 v8=some v20):sP 163 [(IH v8)] [] (.tuple [(Ax v20.1),(Ax v20.2)]) []:=
 sG Tryz.func163 λΓ q=>tW q [1] [1] [1,5] [1] (tB h λx2 y2 h=>gJ y2 (λb1=>aG Γ .normal (⟨[FW,(5,(Ax v8.Kind)),(6,(.bool b1))],(Q70 v8),[]⟩:St)) (λy h=>Ae q [1,5,6] [1] (gC h (λh=>tS h (gK (Bd Jh))) λh=>Ae q [1,5,6] [1] (tS h (gK (Bd Jh))))) (gA (gC h (λh=>Ae q B7 [] (tS h (Bi []))) λh=>tB h λx5 y5 h=>gJ y5 (λb4=>aG Γ .normal (⟨[FW,(5,(Ax v8.Kind)),(9,(.bool b4))],(Q70 v8),[]⟩:St)) (λy h=>Ae q [1,5,9] [1] (gC h (λh=>tS h (gK (Bd Jh))) λh=>Ae q [1,5,9] [1] (gC h (λh=>tS h (gK (Bd Jh))) λh=>Ae q [1,5,9] [1] (tS h (gK (Bd Jh)))))) (gA (gC h (λh=>Ae q B7 [] (tS h (Bi []))) λh=>Ae q [1,13] [1] (gC h (λh=>Ae q B7 [] (tS h (Bi []))) λh=>Ae q B7 [] (tS h (Bi []))))))))
def Qz(a0:C5):Option Bool:=
 ((Q0 a0).bind λx1=>(bif (x1.1==0) then(some (a0.Dst==0)) else((Ns a0.Dst).bind λx2=>(some x2))))
theorem PS(h:Qz v8=some v5):sP 174 [(IH v8)] [] (.bool v5) []:=
 sG Tryz.func174 λΓ q=>Ae q [1] [1] (tB h λx1 y1 h=>tT q Mz [1] [(tY x1.1 x1.2)] (c1 (GH y1)) (Ae q [1,11] [1] (gC h (λh=>Ae q [2] [] (tS h (Bi []))) λh=>tB h λx2 y2 h=>tT q [2] [] [(Z8 x2)] (c1 (Zj y2)) (tS h (Bi [])))))
def vp(x1:Bool)(x2:Bool):=(bif (!x1) then true else(!x2))
def R8(a0:C5):Option Bool:=
 ((Ss a0.Kind).bind λx1=>((bif ((!x1)==false) then T4 a0.Bits a0.Lanes else some false).bind λx2=>((bif ((bif (!x1) then true else(!x2))==false) then Oa a0 else some false).bind λx3=>((bif ((bif (bif (!x1) then true else(!x2)) then true else(!x3))==false) then Q1 a0 else some false).bind λx4=>(bif (bif (bif (bif (!x1) then true else(!x2)) then true else(!x3)) then true else(!x4)) then(some false) else((Qy a0).bind λx5=>((bif (x5==true) then Qz a0 else some false).bind λx6=>(some (bif x5 then x6 else false)))))))))
theorem DE(h:R8 v8=some v5):sP 161 [(IH v8)] [] (.bool v5) []:=
 sG Tryz.func161 λΓ q=>Ae q [1] [1] (tB h λx1 y1 h=>tB h λx2 y2 h=>tB h λx3 y3 h=>tB h λx4 y4 h=>tT q [1,24] [1] [(Z8 x1),(Z8 x2),(Z8 x3),(Z8 x4)] (ci (TM y1) (mF ((!x1)==false) (xk (λ(hg:((!x1)==false)=true)=>(XU (B0 hg y2))) (gI ((!x1)==false)) (Ld (!x1)) (gI ((vp x1 x2)==false)) (λ(hg:((vp x1 x2)==false)=true)=>(JN (B0 hg y3))) (gI ((vp x1 x2)==false)) (Ld (vp x1 x2)) (gI ((bif (vp x1 x2) then true else(!x3))==false)) (λ(hg:((bif (vp x1 x2) then true else(!x3))==false)=true)=>(PT (B0 hg y4))) (c2 (gI ((bif (vp x1 x2) then true else(!x3))==false)) (Ld (bif (vp x1 x2) then true else(!x3))))))) (gC h (λh=>Ae q [2] [] (tS h (Bi []))) λh=>tB h λx5 y5 h=>tB h λx6 y6 h=>tT q [2] [] [(Z8 x5),(Z8 x6)] (c4 (PR y5) (gI (x5==true)) (λ(hg:(x5==true)=true)=>(PS (B0 hg y6))) (L0 x5)) (tS h (Bi []))))
def T0(a0:C5)(aa0:Int):Option Bool:=
 (bif (aa0==0) then(some (bif (decide (a0.Kind<=17)) then(a0.Lanes==1) else false)) else(bif (aa0==1) then(some (bif (decide (a0.Kind<=20)) then(a0.Lanes==1) else false)) else(some true)))
theorem XP(h:T0 v8 v4=some v5):sP 162 [(IH v8),(Ax v4)] [] (.bool v5) []:=
 sG Tryz.func162 λΓ q=>tW q Pe [2] Wo [2] (Ae q Xn [2] (gC h (λh=>tU q [4] [] (Lz ((decide (v8.Kind<=17))==true) (c1 (L0 (decide (v8.Kind<=17))))) (tS h (Bi []))) λh=>Ae q Wm [2] (gC h (λh=>tU q [4] [] (Lz ((decide (v8.Kind<=20))==true) (c1 (L0 (decide (v8.Kind<=20))))) (tS h (Bi []))) λh=>Ae q [4] [] (tS h (Bi [])))))
abbrev EB:=(Bool×TFunc×Int×Am×List Bj)
def Ip(a0:C5)(a6:TFunc)(aB:Int)(a2:Am)(a3:List Bj):Option EB:=
 ((R8 a0).bind λx1=>((bif (x1==true) then T0 a0 aB else some false).bind λx2=>(some ((bif x1 then x2 else false),a6,aB,a2,a3))))
variable{v24:EB}
theorem Wf(h:Ip v8 v3 v4 v0 v14=some v24):sP 127 [(Ha 30000),(IH v8)] (Z3 v3.Params v3.Ret v3.Blocks v4 v0 v14 v14.length) (.bool v24.1) (Z3 v24.2.1.Params v24.2.1.Ret v24.2.1.Blocks v24.2.2.1 v24.2.2.2.1 v24.2.2.2.2 v24.2.2.2.2.length):=
 sG Tryz.func127 λΓ q=>Ae q Ou VO (tB h λx1 y1 h=>tB h λx2 y2 h=>tT q [4] D4 [(Z8 x1),(Z8 x2)] (ci (DE y1) (pI (x1==true) (c2 (λ(hg:(x1==true)=true)=>(XP (B0 hg y2))) (L0 x1)))) (tS h (Bi Zs)))
abbrev Tq:=(Int×Am×Int×List Aj×Int×Am×List Bj)
abbrev Abg:=(LR (Int×Am×Int×List Aj×Int×Am×List Bj) ((Am×Int×List Aj×Int×Am×List Bj) ⊕ (Bool×TFunc×Int×Am×List Bj)))
def Hj(aJ:List C5):Tq->Option Abg:=
 λ((i1,l2,i3,l4,i5,l6,l7):Tq)=>(bif (decide (i1<(aJ.length:Int))) then(Aw (A0 i1 aJ.length) ((Ip (aJ.getD i1.toNat default) (⟨l2,i3,l4⟩:TFunc) i5 l6 l7).bind λx15=>(bif (!x15.1) then(some (.done (.inr (false,x15.2.1,x15.2.2.1,x15.2.2.2.1,x15.2.2.2.2)))) else(some (.next ((w64 (i1+1)),x15.2.1.Params,x15.2.1.Ret,x15.2.1.Blocks,x15.2.2.1,x15.2.2.2.1,x15.2.2.2.2)))))) else(some (.done (.inl (l2,i3,l4,i5,l6,l7)))))
def GZ(Γ:Il)(aJ:List C5)(a6:TFunc)(aB:Int)(a2:Am)(a3:List Bj)(r:EB):Exit->St->Prop:=fK Tryz.prog Γ Tryz.f126.results.toList (Z3 a6.Params a6.Ret a6.Blocks aB a2 a3 a3.length) (.bool r.1) (Z3 r.2.1.Params r.2.1.Ret r.2.1.Blocks r.2.2.1 r.2.2.2.1 r.2.2.2.2 r.2.2.2.2.length)
def Mc(aJ:List C5)(a6:TFunc)(aB:Int)(a2:Am)(a3:List Bj):Option EB:=
 ((Ac (Hj aJ) ((0:Int),a6.Params,a6.Ret,a6.Blocks,aB,a2,a3)).bind (λx16=>(match x16 with|(.inl (l8,i9,l10,i11,l12,l13))=>(some (true,(⟨l8,i9,l10⟩:TFunc),i11,l12,l13))|(.inr r18)=>(some r18))))
theorem FP(h:Mc v9 v3 v4 v0 v14=some v24):sP 126 [(AV.list 6 PO default v9 .none),(.clo 127 Y7 [])] (Z3 v3.Params v3.Ret v3.Blocks v4 v0 v14 v14.length) (.bool v24.1) (Z3 v24.2.1.Params v24.2.1.Ret v24.2.1.Blocks v24.2.2.1 v24.2.2.2.1 v24.2.2.2.2 v24.2.2.2.2.length):=
 sG Tryz.func126 λΓ q=>tW q E6 D4 Nd D4 (tL q h Nd D4 (λu (i1,l2,i3,l4,i5,l6,l7)=>(Cs u [(9,(Ax i1))] (Z3 l2 i3 l4 i5 l6 l7 l7.length))) (λu x_=>match x_ with|(.inl (l8,i9,l10,i11,l12,l13))=>aG Γ (.exit 0) (⟨[],(Z3 l8 i9 l10 i11 l12 l13 l13.length),[]⟩:St)|(.inr r_)=>aR (GZ Γ v9 v3 v4 v0 v14 r_)) (λ⟨i1,l2,i3,l4,i5,l6,l7⟩ y h=>Ae q PC D4 (gC h (λh=>tV q PD [6,30000,37006] h λh=>tB h λx15 y15 h=>tT q WN D4 [(tP x15.1 x15.2.1.Params x15.2.1.Ret x15.2.1.Blocks x15.2.2.1 x15.2.2.2.1 x15.2.2.2.2 x15.2.2.2.2.length)] (c1 (Wf y15)) (gC h (λh=>Ae q [4] D4 (tS h (gO (Lj (Ht Zs (Le.refl _ _)))))) λh=>Ae q Nd D4 (tN h))) λh=>tS h (gO (Bd (Bk [] D4 q))))) λx16 h=>(match x16,h with | .inl ⟨l8,i9,l10,i11,l12,l13⟩,h=>gA (Ae q [4] D4 (tS h (Bi Zs))) | .inr r18,h=>Pz (λst' hk=>tS h (gK hk))))
def Q74(x1:Bool)(x2:EB)(a2:Am):AV:=(zo x1 x2.2.2.2.1 a2)
def Q73(x1:Bool)(x2:EB)(a6:TFunc):AV:=(zo x1 x2.2.1.Params a6.Params)
def Q72(x1:Bool)(x2:EB)(a6:TFunc):AV:=(.slice 5 (bif (x1==true) then x2.2.1.Blocks.length else a6.Blocks.length) (λi=>bif (x1==true) then Jv (x2.2.1.Blocks.getD i default) else Jv (a6.Blocks.getD i default)) .none)
def Gt(aS:Aj)(a6:TFunc)(aB:Int)(a2:Am)(a3:List Bj):Option EB:=
 ((Ll aS.Phis).bind λx1=>((bif (x1==true) then Mc aS.Ops a6 aB a2 a3 else some (false,(default:TFunc),(0:Int),[],[])).bind λx2=>(some ((bif x1 then x2.1 else false),(⟨(bif (x1==true) then x2.2.1.Params else a6.Params),(bif (x1==true) then x2.2.1.Ret else a6.Ret),(bif (x1==true) then x2.2.1.Blocks else a6.Blocks)⟩:TFunc),(bif (x1==true) then x2.2.2.1 else aB),(bif (x1==true) then x2.2.2.2.1 else a2),(bif (x1==true) then x2.2.2.2.2 else a3)))))
theorem T5(h:Gt v11 v3 v4 v0 v14=some v24):sP 96 [(Ha 30000),(.agg (Jv v11))] (Z3 v3.Params v3.Ret v3.Blocks v4 v0 v14 v14.length) (.bool v24.1) (Z3 v24.2.1.Params v24.2.1.Ret v24.2.1.Blocks v24.2.2.1 v24.2.2.2.1 v24.2.2.2.2 v24.2.2.2.2.length):=
 sG Tryz.func96 λΓ q=>Ae q Ou VO (tB h λx1 y1 h=>tB h λx2 y2 h=>tT q [4] D4 [(Z8 x1),(tP x2.1 x2.2.1.Params x2.2.1.Ret x2.2.1.Blocks x2.2.2.1 x2.2.2.2.1 x2.2.2.2.2 x2.2.2.2.2.length)] (ci (CY y1) (mF (x1==true) (c2 (λ(hg:(x1==true)=true)=>(FP (B0 hg y2))) (L0 x1)))) (tS h (gK (e:=.ret) (Ht Zs (Le.trans (leB (λg_ u=>(Cs u [] [(30000,.row 109 [(Q73 x1 x2 v3),(.int .i64 (bif (x1==true) then x2.2.1.Ret else v3.Ret)),(Q72 x1 x2 v3),(.int .i64 (bif (x1==true) then x2.2.2.1 else v4)),(Q74 x1 x2 v0),.nilm,(Z55 g_ x2.2.2.2.2 v14)]),(37006,.tok 5 152 (bif g_ then x2.2.2.2.2.length else v14.length))])) (λg_ u=>(Cs u [] [(30000,.row 109 [(Q73 x1 x2 v3),(.int .i64 (bif (x1==true) then x2.2.1.Ret else v3.Ret)),(Q72 x1 x2 v3),(.int .i64 (bif (x1==true) then x2.2.2.1 else v4)),(Q74 x1 x2 v0),.nilm,(AV.list 5 Oj default (bif g_ then x2.2.2.2.2 else v14) (.own 37006))]),(37006,.tok 5 152 ((bif g_ then x2.2.2.2.2 else v14).length))])) (x1==true)) (Le.trans (uU 30000 0 (show AVle (Q73 x1 x2 v3) (AV.list 1 Ay 0 (bif (x1==true) then x2.2.1.Params else v3.Params) .none) from Ki)) (Le.trans (uU 30000 2 (show AVle (Q72 x1 x2 v3) (AV.list 5 Jv default (bif (x1==true) then x2.2.1.Blocks else v3.Blocks) .none) from Ki)) (uU 30000 4 (show AVle (Q74 x1 x2 v0) (AV.list 1 Ay 0 (bif (x1==true) then x2.2.2.2.1 else v0) .none) from Ki)))))))))
def Fi(aJ:List Aj):Tq->Option Abg:=
 λ((i1,l2,i3,l4,i5,l6,l7):Tq)=>(bif (decide (i1<(aJ.length:Int))) then(Aw (A0 i1 aJ.length) ((Gt (aJ.getD i1.toNat default) (⟨l2,i3,l4⟩:TFunc) i5 l6 l7).bind λx15=>(bif (!x15.1) then(some (.done (.inr (false,x15.2.1,x15.2.2.1,x15.2.2.2.1,x15.2.2.2.2)))) else(some (.next ((w64 (i1+1)),x15.2.1.Params,x15.2.1.Ret,x15.2.1.Blocks,x15.2.2.1,x15.2.2.2.1,x15.2.2.2.2)))))) else(some (.done (.inl (l2,i3,l4,i5,l6,l7)))))
def Zw(Γ:Il)(aJ:List Aj)(a6:TFunc)(aB:Int)(a2:Am)(a3:List Bj)(r:EB):Exit->St->Prop:=fK Tryz.prog Γ Tryz.f95.results.toList (Z3 a6.Params a6.Ret a6.Blocks aB a2 a3 a3.length) (.bool r.1) (Z3 r.2.1.Params r.2.1.Ret r.2.1.Blocks r.2.2.1 r.2.2.2.1 r.2.2.2.2 r.2.2.2.2.length)
def Jw(aJ:List Aj)(a6:TFunc)(aB:Int)(a2:Am)(a3:List Bj):Option EB:=
 ((Ac (Fi aJ) ((0:Int),a6.Params,a6.Ret,a6.Blocks,aB,a2,a3)).bind (λx16=>(match x16 with|(.inl (l8,i9,l10,i11,l12,l13))=>(some (true,(⟨l8,i9,l10⟩:TFunc),i11,l12,l13))|(.inr r18)=>(some r18))))
theorem Yg(h:Jw v12 v3 v4 v0 v14=some v24):sP 95 [(YL v12),(.clo 96 Y7 [])] (Z3 v3.Params v3.Ret v3.Blocks v4 v0 v14 v14.length) (.bool v24.1) (Z3 v24.2.1.Params v24.2.1.Ret v24.2.1.Blocks v24.2.2.1 v24.2.2.2.1 v24.2.2.2.2 v24.2.2.2.2.length):=
 sG Tryz.func95 λΓ q=>tW q E6 D4 Nd D4 (tL q h Nd D4 (λu (i1,l2,i3,l4,i5,l6,l7)=>(Cs u [(9,(Ax i1))] (Z3 l2 i3 l4 i5 l6 l7 l7.length))) (λu x_=>match x_ with|(.inl (l8,i9,l10,i11,l12,l13))=>aG Γ (.exit 0) (⟨[],(Z3 l8 i9 l10 i11 l12 l13 l13.length),[]⟩:St)|(.inr r_)=>aR (Zw Γ v12 v3 v4 v0 v14 r_)) (λ⟨i1,l2,i3,l4,i5,l6,l7⟩ y h=>Ae q PC D4 (gC h (λh=>tV q PD [6,30000,37006] h λh=>tB h λx15 y15 h=>tT q WN D4 [(tP x15.1 x15.2.1.Params x15.2.1.Ret x15.2.1.Blocks x15.2.2.1 x15.2.2.2.1 x15.2.2.2.2 x15.2.2.2.2.length)] (c1 (T5 y15)) (gC h (λh=>Ae q [4] D4 (tS h (gO (Lj (Ht Zs (Le.refl _ _)))))) λh=>Ae q Nd D4 (tN h))) λh=>tS h (gO (Bd (Bk [] D4 q))))) λx16 h=>(match x16,h with | .inl ⟨l8,i9,l10,i11,l12,l13⟩,h=>gA (Ae q [4] D4 (tS h (Bi Zs))) | .inr r18,h=>Pz (λst' hk=>tS h (gK hk))))
def ld(x1:Bool)(x2:Bool):=((bif x1 then x2 else false)==true)
def Q78(x1:Bool)(x2:Bool)(x3:EB)(a2:Am):AV:=(Z35 (ld x1 x2) x3.2.2.2.1 a2)
def Q77(x1:Bool)(x2:Bool)(x3:EB)(a6:TFunc):AV:=(Z35 (ld x1 x2) x3.2.1.Params a6.Params)
def Q76(x1:Bool)(x2:Bool)(x3:EB)(a6:TFunc):AV:=(Z95 (ld x1 x2) x3.2.1.Blocks a6.Blocks)
def Jx(a6:TFunc)(aB:Int)(a2:Am)(a3:List Bj):Option m9:=
 ((Pj a6.Params).bind λx1=>((bif (x1==true) then Ep a6.Ret else some false).bind λx2=>((bif ((bif x1 then x2 else false)==true) then Jw a6.Blocks a6 aB a2 a3 else some (false,(default:TFunc),(0:Int),[],[])).bind λx3=>((Np (bif (bif x1 then x2 else false) then x3.1 else false) (6:Int)).bind λx4=>(some (x4,(⟨(bif ((bif x1 then x2 else false)==true) then x3.2.1.Params else a6.Params),(bif ((bif x1 then x2 else false)==true) then x3.2.1.Ret else a6.Ret),(bif ((bif x1 then x2 else false)==true) then x3.2.1.Blocks else a6.Blocks)⟩:TFunc),(bif ((bif x1 then x2 else false)==true) then x3.2.2.1 else aB),(bif ((bif x1 then x2 else false)==true) then x3.2.2.2.1 else a2),(bif ((bif x1 then x2 else false)==true) then x3.2.2.2.2 else a3)))))))
theorem Yh(h:Jx v3 v4 v0 v14=some v15):sP 73 Y7 (Z3 v3.Params v3.Ret v3.Blocks v4 v0 v14 v14.length) (Ax v15.1) (Z3 v15.2.1.Params v15.2.1.Ret v15.2.1.Blocks v15.2.2.1 v15.2.2.2.1 v15.2.2.2.2 v15.2.2.2.2.length):=
 sG Tryz.func73 λΓ q=>Ae q [0] D4 (tB h λx1 y1 h=>tB h λx2 y2 h=>tB h λx3 y3 h=>tT q [3] D4 [(Z8 x1),(Z8 x2),(tP x3.1 x3.2.1.Params x3.2.1.Ret x3.2.1.Blocks x3.2.2.1 x3.2.2.2.1 x3.2.2.2.2 x3.2.2.2.2.length)] (ci (LJ y1) (pI (x1==true) (SB (λ(hg:(x1==true)=true)=>(Gm (B0 hg y2))) (L0 x1) (gI7 (ld x1 x2) (c2 (λ(hg:(ld x1 x2)=true)=>(Yg (B0 hg y3))) (L0 (bif x1 then x2 else false))))))) (M4 (Le.trans (leB (λg_ u=>(Cs u [] [(30000,.row 109 [(Q77 x1 x2 x3 v3),(dM (ld x1 x2) x3.2.1.Ret v3.Ret),(Q76 x1 x2 x3 v3),(dM (ld x1 x2) x3.2.2.1 v4),(Q78 x1 x2 x3 v0),.nilm,(Z55 g_ x3.2.2.2.2 v14)]),(37006,.tok 5 152 (bif g_ then x3.2.2.2.2.length else v14.length))])) (λg_ u=>(Cs u [] [(30000,.row 109 [(Q77 x1 x2 x3 v3),(dM (ld x1 x2) x3.2.1.Ret v3.Ret),(Q76 x1 x2 x3 v3),(dM (ld x1 x2) x3.2.2.1 v4),(Q78 x1 x2 x3 v0),.nilm,(AV.list 5 Oj default (bif g_ then x3.2.2.2.2 else v14) (.own 37006))]),(37006,.tok 5 152 ((bif g_ then x3.2.2.2.2 else v14).length))])) (ld x1 x2)) (Le.trans (uU 30000 0 (show AVle (Q77 x1 x2 x3 v3) (AV.list 1 Ay 0 (bif (ld x1 x2) then x3.2.1.Params else v3.Params) .none) from Ki)) (Le.trans (uU 30000 2 (show AVle (Q76 x1 x2 x3 v3) (AV.list 5 Jv default (bif (ld x1 x2) then x3.2.1.Blocks else v3.Blocks) .none) from Ki)) (uU 30000 4 (show AVle (Q78 x1 x2 x3 v0) (AV.list 1 Ay 0 (bif (ld x1 x2) then x3.2.2.2.1 else v0) .none) from Ki))))) (tB h λx4 y4 h=>tT q [2] D4 [(XA x4)] (c1 (Zg y4)) (tS h (Bi Zs)))))
def El(aH:Int):Option Hr:=
 (some (aH,(1:Int)))
theorem Ms(h:El v4=some v20):sP 97 [(Ax v4)] [] (.agg (Bs v20)) []:=
 sG Tryz.func97 λΓ q=>tW q [0,2] [2] [2] [2] (tS h (Bi []))
def yj:=(λ(v_:A1)=>((Xt v_):AV))
abbrev Pb:=(Int×A1)
abbrev fj:=(Bool×TFunc×Int×Am×List Bj×List (Int×A1))
def Gu(aK:Int)(aaB:Hr)(aN:L9)(a6:TFunc)(aB:Int)(a2:Am)(a4:List Pb)(a3:List Bj):Option fj:=
 (bif (bif (bif (F0 a4 aK) then true else(decide (aK<1))) then true else(decide ((1023:Int)<aK))) then(some (false,a6,aB,a2,a3,a4)) else(some (true,a6,aB,a2,a3,(Nv a4 aK (⟨aaB,aN⟩:A1)))))
variable{v25:L9}{v26:List Pb}{v27:fj}
theorem P3(h:Gu v4 v20 v25 v3 v13 v0 v26 v14=some v27):sP 128 [(Ha 30000),(Ax v4),(.agg (Bs v20)),(.agg (QN v25))] [(Z2 v3.Params v3.Ret v3.Blocks v13 v0 9100005 v14),(Ng 37006 152 v14.length),(9100005,.obj (.map true .i64 (D6 (λ(v_:A1)=>((Xt v_):AV)) v26)))] (.bool v27.1) [(Z2 v27.2.1.Params v27.2.1.Ret v27.2.1.Blocks v27.2.2.1 v27.2.2.2.1 9100005 v27.2.2.2.2.1),(Ng 37006 152 v27.2.2.2.2.1.length),(9100005,.obj (.map true .i64 (D6 (λ(v_:A1)=>((Xt v_):AV)) v27.2.2.2.2.2)))]:=
 sG Tryz.func128 λΓ q=>Ae q [0,1,6,7] lD (gR q [0,1,6,7,10] lD [(17,(.tuple [(vt v26 v4),(.bool (F0 v26 v4))]))] [] (c1 (show(AVle (.tuple [H8 (.agg [Px,Px,Px,Px]) (D6 yj v26) v4,.bool (F0 (D6 yj v26) v4)]) (.tuple [(vt v26 v4),(.bool (F0 v26 v4))])) from(ed (f:=yj) (l:=v26) (AVle.refl _) rfl))) (tU q [0,1,6,7,28] lD (c4 (gI ((F0 v26 v4)==false)) (Ld (F0 v26 v4)) (gI ((bif (F0 v26 v4) then true else(decide (v4<1)))==false)) (Ld (bif (F0 v26 v4) then true else(decide (v4<1))))) (gC h (λh=>Ae q [8] Ja (tS h (Bi Tx))) λh=>Ae q [] Ja (M4 (Sq (λ(k_:List yT1) u=>Cs u [] [(9100005,.obj (.map true .i64 k_))]) (show(Nv (D6 yj v26) v4 (.agg [(Ax v20.1),(Ax v20.2),(Ax v25.block),(Ax v25.at_)]))=(D6 yj (Nv v26 v4 (⟨v20,v25⟩:A1))) from(kT (f:=yj) (l:=v26) (v:=(⟨v20,v25⟩:A1)) rfl rfl))) (Ae q [8] Ja (tS h (Bi Tx)))))))
def Qw(a0:C5):Option Hr:=
 ((R8 a0).bind λx1=>(bif (!x1) then(some ((0:Int),(0:Int))) else((Q0 a0).bind λx2=>(some (x2.1,x2.2)))))
theorem XT(h:Qw v8=some v20):sP 129 [(IH v8)] [] (.tuple [(Ax v20.1),(Ax v20.2)]) []:=
 sG Tryz.func129 λΓ q=>Ae q [1] [1] (tB h λx1 y1 h=>tT q [1,6] [1] [(Z8 x1)] (c1 (DE y1)) (gC h (λh=>Ae q B7 [] (tS h (Bi []))) λh=>tB h λx2 y2 h=>tT q B7 [] [(tY x2.1 x2.2)] (c1 (GH y2)) (tS h (Bi []))))
set_option maxRecDepth 100000
set_option maxHeartbeats 2000000
abbrev vf:=(Int×Am×Int×List Aj×Int×Am×List Bj×List (Int×A1))
abbrev Abh:=(LR (Int×Am×Int×List Aj×Int×Am×List Bj×List (Int×A1)) ((Am×Int×List Aj×Int×Am×List Bj×List (Int×A1)) ⊕ (Bool×TFunc×Int×Am×List Bj×List (Int×A1))))
def Du(aaA:Int)(aS:Aj):vf->Option Abh:=
 λ((i1,l2,i3,l4,i5,l6,l7,l8):vf)=>(bif (decide (i1<(aS.Phis.length:Int))) then(Aw (A0 i1 aS.Phis.length) ((El ((aS.Phis.getD i1.toNat default).Bits)).bind λx17=>((Gu ((aS.Phis.getD i1.toNat default).Dst) x17 (⟨aaA,(-1:Int)⟩:L9) (⟨l2,i3,l4⟩:TFunc) i5 l6 l8 l7).bind λx18=>(bif (!x18.1) then(some (.done (.inr (false,x18.2.1,x18.2.2.1,x18.2.2.2.1,x18.2.2.2.2.1,x18.2.2.2.2.2)))) else(some (.next ((w64 (i1+1)),x18.2.1.Params,x18.2.1.Ret,x18.2.1.Blocks,x18.2.2.1,x18.2.2.2.1,x18.2.2.2.2.1,x18.2.2.2.2.2))))))) else(some (.done (.inl (l2,i3,l4,i5,l6,l7,l8)))))
def Co(aaA:Int)(aS:Aj):vf->Option Abh:=
 λ((i21,l22,i23,l24,i25,l26,l27,l28):vf)=>(bif (decide (i21<(aS.Ops.length:Int))) then(Aw (A0 i21 aS.Ops.length) ((Qw (aS.Ops.getD i21.toNat default)).bind λx37=>((bif ((decide ((0:Int)<x37.1))==true) then Gu ((aS.Ops.getD i21.toNat default).Dst) (x37.1,x37.2) (⟨aaA,i21⟩:L9) (⟨l22,i23,l24⟩:TFunc) i25 l26 l28 l27 else some (false,(default:TFunc),(0:Int),[],[],[])).bind λx38=>(bif (bif (decide ((0:Int)<x37.1)) then(!x38.1) else false) then(some (.done (.inr (false,(⟨(bif ((decide ((0:Int)<x37.1))==true) then x38.2.1.Params else l22),(bif ((decide ((0:Int)<x37.1))==true) then x38.2.1.Ret else i23),(bif ((decide ((0:Int)<x37.1))==true) then x38.2.1.Blocks else l24)⟩:TFunc),(bif ((decide ((0:Int)<x37.1))==true) then x38.2.2.1 else i25),(bif ((decide ((0:Int)<x37.1))==true) then x38.2.2.2.1 else l26),(bif ((decide ((0:Int)<x37.1))==true) then x38.2.2.2.2.1 else l27),(bif ((decide ((0:Int)<x37.1))==true) then x38.2.2.2.2.2 else l28))))) else(some (.next ((w64 (i21+1)),(bif ((decide ((0:Int)<x37.1))==true) then x38.2.1.Params else l22),(bif ((decide ((0:Int)<x37.1))==true) then x38.2.1.Ret else i23),(bif ((decide ((0:Int)<x37.1))==true) then x38.2.1.Blocks else l24),(bif ((decide ((0:Int)<x37.1))==true) then x38.2.2.1 else i25),(bif ((decide ((0:Int)<x37.1))==true) then x38.2.2.2.1 else l26),(bif ((decide ((0:Int)<x37.1))==true) then x38.2.2.2.2.1 else l27),(bif ((decide ((0:Int)<x37.1))==true) then x38.2.2.2.2.2 else l28)))))))) else(some (.done (.inl (l22,i23,l24,i25,l26,l27,l28)))))
def Oh(Γ:Il)(aaA:Int)(aS:Aj)(a6:TFunc)(aB:Int)(a2:Am)(a4:List Pb)(a3:List Bj)(r:fj):Exit->St->Prop:=fK Tryz.prog Γ Tryz.f98.results.toList [(Z2 a6.Params a6.Ret a6.Blocks aB a2 9100005 a3),(Ng 37006 152 a3.length),(9100005,.obj (.map true .i64 (D6 (λ(v_:A1)=>((Xt v_):AV)) a4)))] (.bool r.1) [(Z2 r.2.1.Params r.2.1.Ret r.2.1.Blocks r.2.2.1 r.2.2.2.1 9100005 r.2.2.2.2.1),(Ng 37006 152 r.2.2.2.2.1.length),(9100005,.obj (.map true .i64 (D6 (λ(v_:A1)=>((Xt v_):AV)) r.2.2.2.2.2)))]
def fy(x37:Hr):=((decide ((0:Int)<x37.1))==true)
def tO:=(λ(v_:A1)=>((Xt v_):AV))
def Q84(x37:Hr)(x38:fj)(l26:Am):AV:=(Z35 (fy x37) x38.2.2.2.1 l26)
def Q85(x37:Hr)(x38:fj)(l24:List Aj):AV:=(Z95 (fy x37) x38.2.1.Blocks l24)
def Q83(x37:Hr)(x38:fj)(l22:Am):AV:=(Z35 (fy x37) x38.2.1.Params l22)
def Hg(aaA:Int)(aS:Aj)(a6:TFunc)(aB:Int)(a2:Am)(a4:List Pb)(a3:List Bj):Option fj:=
 ((Ac (Du aaA aS) ((0:Int),a6.Params,a6.Ret,a6.Blocks,aB,a2,a3,a4)).bind (λx19=>(match x19 with|(.inl (l9,i10,l11,i12,l13,l14,l15))=>((Ac (Co aaA aS) ((0:Int),l9,i10,l11,i12,l13,l14,l15)).bind (λx39=>(match x39 with|(.inl (l29,i30,l31,i32,l33,l34,l35))=>(some (true,(⟨l29,i30,l31⟩:TFunc),i32,l33,l34,l35))|(.inr r41)=>(some r41))))|(.inr r42)=>(some r42))))
theorem Uw(h:Hg v4 v11 v3 v13 v0 v26 v14=some v27):sP 98 [(Ha 30000),(Ax v4),(.agg (Jv v11))] [(Z2 v3.Params v3.Ret v3.Blocks v13 v0 9100005 v14),(Ng 37006 152 v14.length),(9100005,.obj (.map true .i64 (D6 (λ(v_:A1)=>((Xt v_):AV)) v26)))] (.bool v27.1) [(Z2 v27.2.1.Params v27.2.1.Ret v27.2.1.Blocks v27.2.2.1 v27.2.2.2.1 9100005 v27.2.2.2.2.1),(Ng 37006 152 v27.2.2.2.2.1.length),(9100005,.obj (.map true .i64 (D6 (λ(v_:A1)=>((Xt v_):AV)) v27.2.2.2.2.2)))]:=
 sG Tryz.func98 λΓ q=>tW q Qd PA jW PA (tL q h jW PA (λu (i1,l2,i3,l4,i5,l6,l7,l8)=>(Cs u [(C6 16 i1)] [(Z2 l2 i3 l4 i5 l6 9100005 l7),(Ng 37006 152 l7.length),(9100005,.obj (.map true .i64 (D6 tO l8)))])) (λu x_=>match x_ with|(.inl (l9,i10,l11,i12,l13,l14,l15))=>aG Γ (.exit 0) (Oz Qd PA u [] [(Z2 l9 i10 l11 i12 l13 9100005 l14),(Ng 37006 152 l14.length),(9100005,.obj (.map true .i64 (D6 tO l15)))])|(.inr r_)=>aR (Oh Γ v4 v11 v3 v13 v0 v26 v14 r_)) (λ⟨i1,l2,i3,l4,i5,l6,l7,l8⟩ y h=>Ae q [0,1,5,14,15,16,17] PA (gC h (λh=>tV q [0,1,5,8,14,15,16] [5,8,30000,37006,9100005] h λh=>tB h λx17 y17 h=>tB h λx18 y18 h=>tT q [0,1,5,14,15,16,29] PA [(n6 x17),⟨Tx,[],(.bool x18.1),[(Z2 x18.2.1.Params x18.2.1.Ret x18.2.1.Blocks x18.2.2.1 x18.2.2.2.1 9100005 x18.2.2.2.2.1),(Ng 37006 152 x18.2.2.2.2.1.length),(9100005,.obj (.map true .i64 (D6 tO x18.2.2.2.2.2)))],[],[]⟩] (c2 (Ms y17) (P3 y18)) (gC h (λh=>Ae q [6] Ja (tS h (gO (Lj (Ht Tx (Le.refl _ _)))))) λh=>Ae q jW PA (tN h))) λh=>tS h (gO (Bd (Bk Qd PA q))))) λx19 h=>(match x19,h with | .inl ⟨l9,i10,l11,i12,l13,l14,l15⟩,h=>gA (Ae q jZ Ja (tL q h jZ Ja (λu (i21,l22,i23,l24,i25,l26,l27,l28)=>(Cs u [(C6 34 i21)] [(Z2 l22 i23 l24 i25 l26 9100005 l27),(Ng 37006 152 l27.length),(9100005,.obj (.map true .i64 (D6 tO l28)))])) (λu x_=>match x_ with|(.inl (l29,i30,l31,i32,l33,l34,l35))=>aG Γ (.exit 2) (⟨[],[(Z2 l29 i30 l31 i32 l33 9100005 l34),(Ng 37006 152 l34.length),(9100005,.obj (.map true .i64 (D6 tO l35)))],[]⟩:St)|(.inr r_)=>aR (Oh Γ v4 v11 v3 v13 v0 v26 v14 r_)) (λ⟨i21,l22,i23,l24,i25,l26,l27,l28⟩ y h=>Ae q [0,1,32,33,34,35] Ja (gC h (λh=>tV q [0,1,9,10,32,33,34] rW h λh=>tB h λx37 y37 h=>tT q [0,1,9,10,11,12,32,33,34] rW [(tY x37.1 x37.2)] (c1 (XT y37)) (tB h λx38 y38 h=>tT q [0,1,32,33,34,58] Ja [⟨Tx,[],(.bool x38.1),[(Z2 x38.2.1.Params x38.2.1.Ret x38.2.1.Blocks x38.2.2.1 x38.2.2.2.1 9100005 x38.2.2.2.2.1),(Ng 37006 152 x38.2.2.2.2.1.length),(9100005,.obj (.map true .i64 (D6 tO x38.2.2.2.2.2)))],[],[]⟩] (gI9 (fy x37) (c3 (λ(hg:(fy x37)=true)=>(P3 (B0 hg y38))) (gI (fy x37)) (L0 (decide ((0:Int)<x37.1))))) (M4 (Le.trans (Sq (λ(k_:List yT1) u=>Cs u [] [(9100005,.obj (.map true .i64 k_))]) (show(bif (fy x37) then(D6 tO x38.2.2.2.2.2) else(D6 tO l28))=(D6 tO (bif (fy x37) then x38.2.2.2.2.2 else l28)) from(oc rfl rfl))) (Le.trans (leB (λg_ u=>(Cs u [] [(30000,.row 109 [(Q83 x37 x38 l22),(dM (fy x37) x38.2.1.Ret i23),(Q85 x37 x38 l24),(dM (fy x37) x38.2.2.1 i25),(Q84 x37 x38 l26),(.omap 9100005),(Z55 g_ x38.2.2.2.2.1 l27)]),(37006,.tok 5 152 (bif g_ then x38.2.2.2.2.1.length else l27.length))])) (λg_ u=>(Cs u [] [(30000,.row 109 [(Q83 x37 x38 l22),(dM (fy x37) x38.2.1.Ret i23),(Q85 x37 x38 l24),(dM (fy x37) x38.2.2.1 i25),(Q84 x37 x38 l26),(.omap 9100005),(AV.list 5 Oj default (bif g_ then x38.2.2.2.2.1 else l27) (.own 37006))]),(37006,.tok 5 152 ((bif g_ then x38.2.2.2.2.1 else l27).length))])) (fy x37)) (Le.trans (uU 30000 0 (show AVle (Q83 x37 x38 l22) (AV.list 1 Ay 0 (bif (fy x37) then x38.2.1.Params else l22) .none) from Ki)) (Le.trans (uU 30000 2 (show AVle (Q85 x37 x38 l24) (AV.list 5 Jv default (bif (fy x37) then x38.2.1.Blocks else l24) .none) from Ki)) (uU 30000 4 (show AVle (Q84 x37 x38 l26) (AV.list 1 Ay 0 (bif (fy x37) then x38.2.2.2.1 else l26) .none) from Ki)))))) (gC h (λh=>Ae q [6] Ja (tS h (gO (Lj (Ht Tx (Le.refl _ _)))))) λh=>Ae q jZ Ja (tN h))))) λh=>tS h (gO (Bd (Bk [] Ja q))))) λx39 h=>(match x39,h with | .inl ⟨l29,i30,l31,i32,l33,l34,l35⟩,h=>gA (Ae q [6] Ja (tS h (Bi Tx))) | .inr r41,h=>Pz (λst' hk=>tS h (gK hk))))) | .inr r42,h=>Pz (λst' hk=>tS h (gK hk))))
abbrev Abi:=(Int×List (Int×A1))
def Gv(a6:TFunc):Abi->Option (LR (Int×List (Int×A1)) (List (Int×A1))):=
 λ((i1,l2):Abi)=>(bif (decide (i1<(a6.Params.length:Int))) then(Aw (A0 i1 a6.Params.length) ((El (a6.Params.getD i1.toNat 0)).bind λx5=>(some (.next ((w64 (i1+1)),(Nv l2 (w64 (i1+1)) (⟨x5,(⟨(0:Int),(-1:Int)⟩:L9)⟩:A1))))))) else(some (.done l2)))
abbrev Abj:=(Int×List (Int×A1)×Am×Int×List Aj×Int×Am×List Bj)
def Ek(a6:TFunc):Abj->Option (LR (Int×List (Int×A1)×Am×Int×List Aj×Int×Am×List Bj) ((List (Int×A1)×Am×Int×List Aj×Int×Am×List Bj) ⊕ (Int×TFunc×Int×Am×List Bj×List (Int×A1)))):=
 λ((i8,l9,l10,i11,l12,i13,l14,l15):Abj)=>(bif (decide (i8<(a6.Blocks.length:Int))) then(Aw (A0 i8 a6.Blocks.length) ((Hg i8 (a6.Blocks.getD i8.toNat default) (⟨l10,i11,l12⟩:TFunc) i13 l14 l9 l15).bind λx24=>(bif (!x24.1) then(some (.done (.inr ((7:Int),x24.2.1,x24.2.2.1,x24.2.2.2.1,x24.2.2.2.2.1,x24.2.2.2.2.2)))) else(some (.next ((w64 (i8+1)),x24.2.2.2.2.2,x24.2.1.Params,x24.2.1.Ret,x24.2.1.Blocks,x24.2.2.1,x24.2.2.2.1,x24.2.2.2.2.1)))))) else(some (.done (.inl (l9,l10,i11,l12,i13,l14,l15)))))
abbrev vg:=(Int×TFunc×Int×Am×List Bj×List (Int×A1))
def Ws(Γ:Il)(a6:TFunc)(aB:Int)(a2:Am)(a3:List Bj)(r:vg):Exit->St->Prop:=fK Tryz.prog Γ Tryz.f74.results.toList (Z3 a6.Params a6.Ret a6.Blocks aB a2 a3 a3.length) (Ax r.1) [(Z2 r.2.1.Params r.2.1.Ret r.2.1.Blocks r.2.2.1 r.2.2.2.1 9200005 r.2.2.2.2.1),(Ng 37006 152 r.2.2.2.2.1.length),(9200005,.obj (.map false .i64 (D6 (λ(v_:A1)=>((Xt v_):AV)) r.2.2.2.2.2)))]
def jx:=(λ(v_:A1)=>((Xt v_):AV))
def Q87(l16:List Pb)(l17:Am)(i18:Int)(l19:List Aj)(i20:Int)(l21:Am)(l22:List Bj):List Uc:=[(8,.obj (.map true .i64 (D6 jx l16))),(z8 l17 i18 l19 i20 l21 l22),(Ng 37006 152 l22.length)]
def In(a6:TFunc)(aB:Int)(a2:Am)(a3:List Bj):Option vg:=
 ((Ac (Gv a6) ((0:Int),([]:List Pb))).bind (λx6=>((Ac (Ek a6) ((0:Int),x6,a6.Params,a6.Ret,a6.Blocks,aB,a2,a3)).bind (λx25=>(match x25 with|(.inl (l16,l17,i18,l19,i20,l21,l22))=>(some ((0:Int),(⟨l17,i18,l19⟩:TFunc),i20,l21,l22,l16))|(.inr r27)=>(some r27))))))
variable{v28:vg}
theorem Wc(h:In v3 v4 v0 v14=some v28):sP 74 Y7 (Z3 v3.Params v3.Ret v3.Blocks v4 v0 v14 v14.length) (Ax v28.1) [(Z2 v28.2.1.Params v28.2.1.Ret v28.2.1.Blocks v28.2.2.1 v28.2.2.2.1 9200005 v28.2.2.2.2.1),(Ng 37006 152 v28.2.2.2.2.1.length),(9200005,.obj (.map false .i64 (D6 (λ(v_:A1)=>((Xt v_):AV)) v28.2.2.2.2.2)))]:=
 sG Tryz.func74 λΓ q=>tW q [0] D4 [0] Ro (M4 (Sq (λ(k_:List yT1) u=>Cs u [] [(8,.obj (.map true .i64 k_))]) (show[]=(D6 jx ([]:List Pb)) from rfl)) (Ae q ck Ro (tL q h ck Ro (λu (i1,l2)=>(Cs u [(C6 17 i1)] [(8,.obj (.map true .i64 (D6 jx l2)))])) (λu l3=>aG Γ (.exit 0) (Oz [0] Ro u [] [(8,.obj (.map true .i64 (D6 jx l3)))])) (λ⟨i1,l2⟩ y h=>Ae q [0,15,16,17,18] Ro (gC h (λh=>tV q [0,3,4,15,16,17] Ro h λh=>tB h λx5 y5 h=>tT q ck Ro [(n6 x5)] (c1 (Ms y5)) (M4 (Sq (λ(k_:List yT1) u=>Cs u [] [(8,.obj (.map true .i64 k_))]) (show(Nv (D6 jx l2) (w64 (i1+1)) (.agg [(Ax x5.1),(Ax x5.2),Px,(.int .i64 (-1:Int))]))=(D6 jx (Nv l2 (w64 (i1+1)) (⟨x5,(⟨(0:Int),(-1:Int)⟩:L9)⟩:A1))) from(kT (f:=jx) (l:=l2) (v:=(⟨x5,(⟨(0:Int),(-1:Int)⟩:L9)⟩:A1)) rfl rfl))) (Ae q ck Ro (tN h)))) λh=>tS h (gO (Bd (Bk [0] Ro q))))) λx6 h=>gA (Ae q HW Ro (tL q h HW Ro (λu (i8,l9,l10,i11,l12,i13,l14,l15)=>(Cs u [(C6 39 i8)] [(8,.obj (.map true .i64 (D6 jx l9))),(z8 l10 i11 l12 i13 l14 l15),(Ng 37006 152 l15.length)])) (λu x_=>match x_ with|(.inl (l16,l17,i18,l19,i20,l21,l22))=>aG Γ (.exit 2) (⟨[],(Q87 l16 l17 i18 l19 i20 l21 l22),[]⟩:St)|(.inr r_)=>aR (Ws Γ v3 v4 v0 v14 r_)) (λ⟨i8,l9,l10,i11,l12,i13,l14,l15⟩ y h=>Ae q [0,37,38,39,40] Ro (gC h (λh=>tV q [0,5,6,37,38,39] [6,8,30000,37006] h λh=>tB h λx24 y24 h=>tT q [0,37,38,39,48] Ro [⟨[(30000,30000),(37006,37006),(8,9100005)],[],(.bool x24.1),[(Z2 x24.2.1.Params x24.2.1.Ret x24.2.1.Blocks x24.2.2.1 x24.2.2.2.1 9100005 x24.2.2.2.2.1),(Ng 37006 152 x24.2.2.2.2.1.length),(9100005,.obj (.map true .i64 (D6 jx x24.2.2.2.2.2)))],[],[]⟩] (c1 (Uw y24)) (gC h (λh=>Ae q [2] Ro (Ox (⟨[(2,(.int .i64 (7:Int)))],[(8,.obj (.map true .i64 (D6 jx x24.2.2.2.2.2))),(z8 x24.2.1.Params x24.2.1.Ret x24.2.1.Blocks x24.2.2.1 x24.2.2.2.1 x24.2.2.2.2.1),(Ng 37006 152 x24.2.2.2.2.1.length)],[]⟩:St) (tS h (gO (Lj (Ht rL (Le.trans (pU (nm:=8) (.map false .i64 (D6 jx x24.2.2.2.2.2)) rfl (λ_ _ _ _ h_=>eh h_)) (Bk (st':=⟨[(2,(.int .i64 (7:Int)))],[(8,.obj (.map false .i64 (D6 jx x24.2.2.2.2.2))),(z8 x24.2.1.Params x24.2.1.Ret x24.2.1.Blocks x24.2.2.1 x24.2.2.2.1 x24.2.2.2.2.1),(Ng 37006 152 x24.2.2.2.2.1.length)],[]⟩) [2] Ro q)))))))) λh=>Ae q HW Ro (tN h))) λh=>tS h (gO (Bd (Bk [] Ro q))))) λx25 h=>(match x25,h with | .inl ⟨l16,l17,i18,l19,i20,l21,l22⟩,h=>gA (Ae q [2] Ro (Ox (⟨[(2,Px)],(Q87 l16 l17 i18 l19 i20 l21 l22),[]⟩:St) (tS h (gK (e:=.ret) (Ht rL (Le.trans (pU (nm:=8) (.map false .i64 (D6 jx l16)) rfl (λ_ _ _ _ h_=>eh h_)) (Bk (st':=⟨[(2,Px)],[(8,.obj (.map false .i64 (D6 jx l16))),(z8 l17 i18 l19 i20 l21 l22),(Ng 37006 152 l22.length)],[]⟩) [2] Ro q))))))) | .inr r27,h=>Pz (λst' hk=>tS h (gK hk))))))))
abbrev Abk:=(L9×TFunc×Int×Am×List Bj)
def G6(aaA:Int)(a6:TFunc)(aB:Int)(a2:Am)(a4:List Pb)(a3:List Bj):Option Abk:=
 (Aw (A0 aaA a6.Blocks.length) (some ((⟨aaA,(((a6.Blocks.getD aaA.toNat default).Ops).length:Int)⟩:L9),a6,aB,a2,a3)))
variable{v29:Abk}
theorem Nw(h:G6 v4 v3 v13 v0 v26 v14=some v29):sP 131 [(Ha 30000),(Ax v4)] [(Z2 v3.Params v3.Ret v3.Blocks v13 v0 9100005 v14),(Ng 37006 152 v14.length),(9100005,.obj (.map false .i64 (D6 (λ(v_:A1)=>((Xt v_):AV)) v26)))] (.agg (QN v29.1)) [(Z2 v29.2.1.Params v29.2.1.Ret v29.2.1.Blocks v29.2.2.1 v29.2.2.2.1 9100005 v29.2.2.2.2),(Ng 37006 152 v29.2.2.2.2.length),(9100005,.obj (.map false .i64 (D6 (λ(v_:A1)=>((Xt v_):AV)) v26)))]:=
 sG Tryz.func131 λΓ q=>Ae q [0,1,4] rf (tV q [4] rf h λh=>tS h (Bi Tx))
abbrev vh:=(TFunc×Int×Am×List Bj)
def E8(aK:Int)(aaB:Hr)(aN:L9)(a6:TFunc)(aB:Int)(a2:Am)(a4:List Pb)(a3:List Bj):Option vh:=
 (Aw (a3.length+([(⟨aK,aaB,aN⟩:Bj)]:List Bj).length<=room) (some (a6,aB,a2,(a3++([(⟨aK,aaB,aN⟩:Bj)]:List Bj)))))
variable{v30:vh}
theorem Ky(h:E8 v4 v20 v25 v3 v13 v0 v26 v14=some v30):sP 130 [(Ha 30000),(Ax v4),(.agg (Bs v20)),(.agg (QN v25))] [(Z2 v3.Params v3.Ret v3.Blocks v13 v0 9100005 v14),(Ng 37006 152 v14.length),(9100005,.obj (.map false .i64 (D6 (λ(v_:A1)=>((Xt v_):AV)) v26)))] (.tuple []) [(Z2 v30.1.Params v30.1.Ret v30.1.Blocks v30.2.1 v30.2.2.1 9100005 v30.2.2.2),(Ng 37006 152 v30.2.2.2.length),(9100005,.obj (.map false .i64 (D6 (λ(v_:A1)=>((Xt v_):AV)) v26)))]:=
 sG Tryz.func130 λΓ q=>Ae q [0,1,6,7] lD (tC h λc1_ h=>gR q [] Ja [(17,(AV.list 5 Oj default ([(⟨v4,v20,v25⟩:Bj)]:List Bj) .exact)),(18,(AV.list 5 Oj default (v14++([(⟨v4,v20,v25⟩:Bj)]:List Bj)) (.own 37006)))] [] (c5 (Ca 5 Oj (default:Bj) ([(⟨v4,v20,v25⟩:Bj)]:List Bj)) (Eq.refl v14.length) c1_ (Kh 5 37006 Oj (default:Bj) v14 ([(⟨v4,v20,v25⟩:Bj)]:List Bj)) (Ft v14 ([(⟨v4,v20,v25⟩:Bj)]:List Bj))) (tS h (gK (e:=.normal) (Ht Tx (Le.refl _ _)))))
def Q88:List YG:=[(2,Z61)]
def Qx(a0:C5):Option rA:=
 ((R8 a0).bind λx1=>(bif (!x1) then(some ([]:List Hr)) else((Q2 a0).bind λx2=>(some x2))))
theorem XV(h:Qx v8=some v22):sP 132 [(IH v8)] [] (ta v22) []:=
 sG Tryz.func132 λΓ q=>gR q [1] [1] Q88 [] (c1 (Bh 2 Bs ((0:Int),(0:Int)))) (tB h λx1 y1 h=>tT q [1,5] [1] [(Z8 x1)] (c1 (DE y1)) (gC h (λh=>gR q [2] [] Q88 [] (c1 (Bh 2 Bs ((0:Int),(0:Int)))) (Ox (⟨Q88,[],[]⟩:St) (tS h (gK (e:=.ret) (Ht [] (show Le Γ _ (⟨[(2,(AV.list 2 Bs ((0:Int),(0:Int)) ([]:List Hr) .none))],[],[]⟩:St) from Le.trans (Bk (st':=⟨Q88,[],[]⟩) [2] [] q) (J8 (.cons AVle.untag .nil) .nil))))))) λh=>tB h λx2 y2 h=>tT q [2] [] [(lh x2)] (c1 (GI y2)) (tS h (Bi []))))
abbrev rB:=(LR (Int×Am×Int×List Aj×Int×Am×List Bj) (Am×Int×List Aj×Int×Am×List Bj))
def Ef(a6:TFunc)(a4:List Pb)(i1:Int)(i21:Int):Tq->Option rB:=
 λ((i35,l36,i37,l38,i39,l40,l41):Tq)=>(bif (decide (i35<(((((a6.Blocks.getD i1.toNat default).Phis).getD i21.toNat default).Args).length:Int))) then(Aw (A0 i35 ((((a6.Blocks.getD i1.toNat default).Phis).getD i21.toNat default).Args).length) ((El ((((a6.Blocks.getD i1.toNat default).Phis).getD i21.toNat default).Bits)).bind λx49=>(Aw (A0 i35 ((((a6.Blocks.getD i1.toNat default).Phis).getD i21.toNat default).From).length) ((G6 (((((a6.Blocks.getD i1.toNat default).Phis).getD i21.toNat default).From).getD i35.toNat 0) (⟨l36,i37,l38⟩:TFunc) i39 l40 a4 l41).bind λx51=>((E8 (((((a6.Blocks.getD i1.toNat default).Phis).getD i21.toNat default).Args).getD i35.toNat 0) x49 x51.1 x51.2.1 x51.2.2.1 x51.2.2.2.1 a4 x51.2.2.2.2).bind λx52=>(some (.next ((w64 (i35+1)),x52.1.Params,x52.1.Ret,x52.1.Blocks,x52.2.1,x52.2.2.1,x52.2.2.2)))))))) else(some (.done (l36,i37,l38,i39,l40,l41))))
def Eg(a6:TFunc)(a4:List Pb)(i1:Int):Tq->Option rB:=
 λ((i21,l22,i23,l24,i25,l26,l27):Tq)=>(bif (decide (i21<(((a6.Blocks.getD i1.toNat default).Phis).length:Int))) then(Aw (A0 i21 ((a6.Blocks.getD i1.toNat default).Phis).length) ((Ac (Ef a6 a4 i1 i21) ((0:Int),l22,i23,l24,i25,l26,l27)).bind (λ(l42,i43,l44,i45,l46,l47)=>(some (.next ((w64 (i21+1)),l42,i43,l44,i45,l46,l47)))))) else(some (.done (l22,i23,l24,i25,l26,l27))))
def Eh(a6:TFunc)(a4:List Pb)(i1:Int)(i57:Int)(x71:List MJ):Tq->Option rB:=
 λ((i72,l73,i74,l75,i76,l77,l78):Tq)=>(bif (decide (i72<(x71.length:Int))) then(Aw (A0 i72 x71.length) (Aw (A0 i72 ((((a6.Blocks.getD i1.toNat default).Ops).getD i57.toNat default).Args).length) ((E8 (((((a6.Blocks.getD i1.toNat default).Ops).getD i57.toNat default).Args).getD i72.toNat 0) (x71.getD i72.toNat ((0:Int),(0:Int))) (⟨i1,i57⟩:L9) (⟨l73,i74,l75⟩:TFunc) i76 l77 a4 l78).bind λx87=>(some (.next ((w64 (i72+1)),x87.1.Params,x87.1.Ret,x87.1.Blocks,x87.2.1,x87.2.2.1,x87.2.2.2)))))) else(some (.done (l73,i74,l75,i76,l77,l78))))
def Ei(a6:TFunc)(a4:List Pb)(i1:Int):Tq->Option rB:=
 λ((i57,l58,i59,l60,i61,l62,l63):Tq)=>(bif (decide (i57<(((a6.Blocks.getD i1.toNat default).Ops).length:Int))) then(Aw (A0 i57 ((a6.Blocks.getD i1.toNat default).Ops).length) ((Qx (((a6.Blocks.getD i1.toNat default).Ops).getD i57.toNat default)).bind λx71=>((Ac (Eh a6 a4 i1 i57 x71) ((0:Int),l58,i59,l60,i61,l62,l63)).bind (λ(l79,i80,l81,i82,l83,l84)=>(some (.next ((w64 (i57+1)),l79,i80,l81,i82,l83,l84))))))) else(some (.done (l58,i59,l60,i61,l62,l63))))
def Ej(a6:TFunc)(a4:List Pb):Tq->Option rB:=
 λ((i1,l2,i3,l4,i5,l6,l7):Tq)=>(bif (decide (i1<(a6.Blocks.length:Int))) then(Option.bind (α:=(Am×Int×List Aj×Int×Am×List Bj)) (Aw (A0 i1 a6.Blocks.length) ((Ac (Eg a6 a4 i1) ((0:Int),l2,i3,l4,i5,l6,l7)).bind (λx55=>(match x55 with|(l28,i29,l30,i31,l32,l33)=>((Ac (Ei a6 a4 i1) ((0:Int),l28,i29,l30,i31,l32,l33)).bind (λx90=>(match x90 with|(l64,i65,l66,i67,l68,l69)=>(bif (((a6.Blocks.getD i1.toNat default).End.Kind:Int)==0) then((El i65).bind λx92=>((G6 i1 (⟨l64,i65,l66⟩:TFunc) i67 l68 a4 l69).bind λx93=>((E8 ((a6.Blocks.getD i1.toNat default).End.Arg) x92 x93.1 x93.2.1 x93.2.2.1 x93.2.2.2.1 a4 x93.2.2.2.2).bind λx94=>(some (x94.1.Params,x94.1.Ret,x94.1.Blocks,x94.2.1,x94.2.2.1,x94.2.2.2))))) else(bif (((a6.Blocks.getD i1.toNat default).End.Kind:Int)==2) then((El (1:Int)).bind λx95=>((G6 i1 (⟨l64,i65,l66⟩:TFunc) i67 l68 a4 l69).bind λx96=>((E8 ((a6.Blocks.getD i1.toNat default).End.Arg) x95 x96.1 x96.2.1 x96.2.2.1 x96.2.2.2.1 a4 x96.2.2.2.2).bind λx97=>(some (x97.1.Params,x97.1.Ret,x97.1.Blocks,x97.2.1,x97.2.2.1,x97.2.2.2))))) else(some (l64,i65,l66,i67,l68,l69))))))))))) (λx98=>(match x98 with|(l14,i15,l16,i17,l18,l19)=>(some (.next ((w64 (i1+1)),l14,i15,l16,i17,l18,l19)))))) else(some (.done (l2,i3,l4,i5,l6,l7))))
def Q90(a6:TFunc)(i1:Int):=(a6.Blocks.getD i1.toNat default)
def vq(a4:List Pb):=(D6 (λ(v_:A1)=>((Xt v_):AV)) a4)
def Im(a6:TFunc)(aB:Int)(a2:Am)(a4:List Pb)(a3:List Bj):Option vh:=
 ((Ac (Ej a6 a4) ((0:Int),a6.Params,a6.Ret,a6.Blocks,aB,a2,a3)).bind (λ(l8,i9,l10,i11,l12,l13)=>(some ((⟨l8,i9,l10⟩:TFunc),i11,l12,l13))))
theorem Wb(h:Im v3 v4 v0 v26 v14=some v30):sP 99 Y7 [(Z2 v3.Params v3.Ret v3.Blocks v4 v0 9100005 v14),(Ng 37006 152 v14.length),(9100005,.obj (.map false .i64 (D6 (λ(v_:A1)=>((Xt v_):AV)) v26)))] (.tuple []) [(Z2 v30.1.Params v30.1.Ret v30.1.Blocks v30.2.1 v30.2.2.1 9100005 v30.2.2.2),(Ng 37006 152 v30.2.2.2.length),(9100005,.obj (.map false .i64 (D6 (λ(v_:A1)=>((Xt v_):AV)) v26)))]:=
 sG Tryz.func99 λΓ q=>Ae q MZ Ja (tL q h MZ Ja (λu (i1,l2,i3,l4,i5,l6,l7)=>(Cs u [(C6 18 i1)] (bV l2 i3 l4 i5 l6 l7 l7.length))) (λu (l8,i9,l10,i11,l12,l13)=>aG Γ (.exit 0) (Oz [] Ja u [] (bV l8 i9 l10 i11 l12 l13 l13.length))) (λ⟨i1,l2,i3,l4,i5,l6,l7⟩ y h=>Ae q [0,16,17,18,19] Ja (gC h (λh=>tB h λx98 y98 h=>gJ y98 (λ(l14,i15,l16,i17,l18,l19)=>aG Γ .normal (⟨[(0,(Ha 30000)),(16,(YL v3.Blocks)),(17,(Vc v3.Blocks.length)),(C6 18 i1)],(z6 l14 i15 l16 i17 l18 l19 l19.length (vq v26)),[]⟩:St)) (λy h=>tV q VI My h λh=>Ae q fp My (tL q h fp My (λu (i21,l22,i23,l24,i25,l26,l27)=>(Cs u [(C6 26 i21)] (bV l22 i23 l24 i25 l26 l27 l27.length))) (λu (l28,i29,l30,i31,l32,l33)=>aG Γ (.exit 2) (Oz VI My u [] (bV l28 i29 l30 i31 l32 l33 l33.length))) (λ⟨i21,l22,i23,l24,i25,l26,l27⟩ y h=>Ae q [0,2,3,16,17,18,24,25,26,27] My (gC h (λh=>tV q [0,2,3,5,16,17,18,24,25,26] KG h λh=>Ae q k6 KG (tL q h k6 KG (λu (i35,l36,i37,l38,i39,l40,l41)=>(Cs u [(C6 33 i35)] (bV l36 i37 l38 i39 l40 l41 l41.length))) (λu (l42,i43,l44,i45,l46,l47)=>aG Γ (.exit 4) (Oz fp My u [] (bV l42 i43 l44 i45 l46 l47 l47.length))) (λ⟨i35,l36,i37,l38,i39,l40,l41⟩ y h=>Ae q [0,2,3,5,16,17,18,24,25,26,31,32,33,34] KG (gC h (λh=>tV q [0,2,3,5,6,7,16,17,18,24,25,26,31,32,33] KG h λh=>tB h λx49 y49 h=>tC h λc50_ h=>tB h λx51 y51 h=>tB h λx52 y52 h=>tT q k6 KG [(n6 x49),(Z99 x51.1 x51.2.1.Params x51.2.1.Ret x51.2.1.Blocks x51.2.2.1 x51.2.2.2.1 x51.2.2.2.2 x51.2.2.2.2.length (vq v26)),(Z49 x52.1.Params x52.1.Ret x52.1.Blocks x52.2.1 x52.2.2.1 x52.2.2.2 x52.2.2.2.length (vq v26))] (c4 (Ms y49) c50_ (Nw y51) (Ky y52)) (Ae q k6 KG (tN h))) λh=>tS h (gO (Bd (Bk fp My q))))) λx53 h=>(match x53,h with|⟨l42,i43,l44,i45,l46,l47⟩,h=>gA (Ae q fp My (tN h))))) λh=>tS h (gO (Bd (Bk VI My q))))) λx55 h=>(match x55,h with|⟨l28,i29,l30,i31,l32,l33⟩,h=>gA (Ae q fq My (tL q h fq My (λu (i57,l58,i59,l60,i61,l62,l63)=>(Cs u [(C6 56 i57)] (bV l58 i59 l60 i61 l62 l63 l63.length))) (λu (l64,i65,l66,i67,l68,l69)=>aG Γ (.exit 6) (Oz VI My u [] (bV l64 i65 l66 i67 l68 l69 l69.length))) (λ⟨i57,l58,i59,l60,i61,l62,l63⟩ y h=>Ae q [0,2,3,16,17,18,54,55,56,57] My (gC h (λh=>tV q [0,2,3,8,9,16,17,18,54,55,56] bF h λh=>tB h λx71 y71 h=>tT q k5 bF [(lh x71)] (c1 (XV y71)) (tL q h k5 bF (λu (i72,l73,i74,l75,i76,l77,l78)=>(Cs u [(C6 64 i72)] (bV l73 i74 l75 i76 l77 l78 l78.length))) (λu (l79,i80,l81,i82,l83,l84)=>aG Γ (.exit 8) (Oz fq My u [] (bV l79 i80 l81 i82 l83 l84 l84.length))) (λ⟨i72,l73,i74,l75,i76,l77,l78⟩ y h=>Ae q [0,2,3,8,9,16,17,18,54,55,56,62,63,64,65] bF (gC h (λh=>tV q [0,2,3,8,9,10,11,16,17,18,54,55,56,62,63,64] [3,9,11,30000,37006,9100005] h λh=>tC h λc86_ h=>tB h λx87 y87 h=>tT q k5 bF [(Z49 x87.1.Params x87.1.Ret x87.1.Blocks x87.2.1 x87.2.2.1 x87.2.2.2 x87.2.2.2.length (vq v26))] (c2 c86_ (Ky y87)) (Ae q k5 bF (tN h))) λh=>tS h (gO (Bd (Bk fq My q))))) λx88 h=>(match x88,h with|⟨l79,i80,l81,i82,l83,l84⟩,h=>gA (Ae q fq My (tN h))))) λh=>tS h (gO (Bd (Bk VI My q))))) λx90 h=>(match x90,h with|⟨l64,i65,l66,i67,l68,l69⟩,h=>gA (tW q [0,2,3,16,17,18,84] My [0,2,3,16,17,18,84,85] My (gC h (λh=>tB h λx92 y92 h=>tB h λx93 y93 h=>tB h λx94 y94 h=>tT q MZ Ja [(n6 x92),(Z99 x93.1 x93.2.1.Params x93.2.1.Ret x93.2.1.Blocks x93.2.2.1 x93.2.2.2.1 x93.2.2.2.2 x93.2.2.2.2.length (vq v26)),(Z49 x94.1.Params x94.1.Ret x94.1.Blocks x94.2.1 x94.2.2.1 x94.2.2.2 x94.2.2.2.length (vq v26))] (c3 (Ms y92) (Nw y93) (Ky y94)) (tS h (gK (Bd Jh)))) λh=>Ae q [0,2,3,16,17,18,101] My (gC h (λh=>tB h λx95 y95 h=>tB h λx96 y96 h=>tB h λx97 y97 h=>tT q MZ Ja [(n6 x95),(Z99 x96.1 x96.2.1.Params x96.2.1.Ret x96.2.1.Blocks x96.2.2.1 x96.2.2.2.1 x96.2.2.2.2 x96.2.2.2.2.length (vq v26)),(Z49 x97.1.Params x97.1.Ret x97.1.Blocks x97.2.1 x97.2.2.1 x97.2.2.2 x97.2.2.2.length (vq v26))] (c3 (Ms y95) (Nw y96) (Ky y97)) (tS h (gK (Bd Jh)))) λh=>tS h (gK (Bd (Bk MZ Ja q)))))))))))) (match x98,h with|⟨l14,i15,l16,i17,l18,l19⟩,h=>gA (Ae q MZ Ja (tN h)))) λh=>tS h (gO (Bd (Bk [] Ja q))))) λx100 h=>(match x100,h with|⟨l8,i9,l10,i11,l12,l13⟩,h=>nJ (λst' hl101=>tS h (gK (e:=.normal) (Ht Tx hl101)))))
def Lr(aX:Bj)(a6:TFunc)(aB:Int)(a2:Am)(a4:List Pb)(a3:List Bj):Option EB:=
 (some ((F0 a4 aX.v),a6,aB,a2,a3))
variable{v31:Bj}
theorem We(h:Lr v31 v3 v4 v0 v26 v14=some v24):sP 100 [(Ha 30000),(.agg (Oj v31))] [(Z2 v3.Params v3.Ret v3.Blocks v4 v0 9100005 v14),(Ng 37006 152 v14.length),(9100005,.obj (.map false .i64 (D6 (λ(v_:A1)=>((Xt v_):AV)) v26)))] (.bool v24.1) [(Z2 v24.2.1.Params v24.2.1.Ret v24.2.1.Blocks v24.2.2.1 v24.2.2.2.1 9100005 v24.2.2.2.2),(Ng 37006 152 v24.2.2.2.2.length),(9100005,.obj (.map false .i64 (D6 (λ(v_:A1)=>((Xt v_):AV)) v26)))]:=
 sG Tryz.func100 λΓ q=>Ae q Ou My (gR q [6] Ja [(14,(.tuple [(vt v26 v31.v),(.bool (F0 v26 v31.v))]))] [] (c1 (show(AVle (.tuple [H8 (.agg [Px,Px,Px,Px]) (D6 (λ(v_:A1)=>((Xt v_):AV)) v26) v31.v,.bool (F0 (D6 (λ(v_:A1)=>((Xt v_):AV)) v26) v31.v)]) (.tuple [(vt v26 v31.v),(.bool (F0 v26 v31.v))])) from(ed (f:=(λ(v_:A1)=>((Xt v_):AV))) (l:=v26) (AVle.refl _) rfl))) (Ae q [4] Ja (tS h (Bi Tx))))
def Nn(aX:Bj)(a6:TFunc)(aB:Int)(a2:Am)(a4:List Pb)(a3:List Bj):Option EB:=
 (some (((((H8 (default:A1) a4 aX.v).shape.1:Int)==aX.shape.1)&&((((H8 (default:A1) a4 aX.v).shape.2:Int)==aX.shape.2)&&true)),a6,aB,a2,a3))
theorem AW(h:Nn v31 v3 v4 v0 v26 v14=some v24):sP 101 [(Ha 30000),(.agg (Oj v31))] [(Z2 v3.Params v3.Ret v3.Blocks v4 v0 9100005 v14),(Ng 37006 152 v14.length),(9100005,.obj (.map false .i64 (D6 (λ(v_:A1)=>((Xt v_):AV)) v26)))] (.bool v24.1) [(Z2 v24.2.1.Params v24.2.1.Ret v24.2.1.Blocks v24.2.2.1 v24.2.2.2.1 9100005 v24.2.2.2.2),(Ng 37006 152 v24.2.2.2.2.length),(9100005,.obj (.map false .i64 (D6 (λ(v_:A1)=>((Xt v_):AV)) v26)))]:=
 sG Tryz.func101 λΓ q=>Ae q Ou My (gR q [4] Ja [(11,(vt v26 v31.v))] [] (c1 (show(AVle (H8 (.agg [Px,Px,Px,Px]) (D6 (λ(v_:A1)=>((Xt v_):AV)) v26) v31.v) (vt v26 v31.v)) from(b6 (f:=(λ(v_:A1)=>((Xt v_):AV))) (l:=v26) (AVle.refl _) rfl))) (tS h (Bi Tx)))
def Cn(aY:Am)(aK:Int):Int->Option (LR Int (Unit ⊕ Int)):=
 λ(i1:Int)=>(bif (decide (i1<(aY.length:Int))) then(Aw (A0 i1 aY.length) (bif (aK==(aY.getD i1.toNat 0)) then(some (.done (.inr i1))) else(some (.next (w64 (i1+1)))))) else(some (.done (.inl ()))))
def Xr(Γ:Il)(aY:Am)(aK:Int)(r:Int):Exit->St->Prop:=fK Tryz.prog Γ Tryz.f85.results.toList [] (.int .i64 r) []
def Dp(aY:Am)(aK:Int):Option Int:=
 ((Ac (Cn aY aK) (0:Int)).bind (λx3=>(match x3 with|(.inl _)=>(some (-1:Int))|(.inr r5)=>(some r5))))
theorem P6(h:Dp v0 v4=some v13):sP 85 [(Rp v0),(Ax v4)] [] (.int .i64 v13) []:=
 sG Tryz.func85 λΓ q=>tW q E6 [] [0,1,7,8] [] (tL q h [0,1,7,8] [] (λu i1=>(Cs u [(8,(Ax i1))] [])) (λu x_=>match x_ with|(.inl _)=>aG Γ (.exit 0) (⟨[],[],[]⟩:St)|(.inr r_)=>aR (Xr Γ v0 v4 r_)) (λi1 y h=>Ae q [0,1,7,8,9] [] (gC h (λh=>Ae q [0,1,5,7,8] [] (tV q [0,1,5,7,8,16] [] h λh=>gC h (λh=>Ae q [4] [] (tS h (gO (Lj (Ht [] (Le.refl _ _)))))) λh=>Ae q [0,1,7,8] [] (tN h))) λh=>tS h (gO (Bd (Bk [] [] q))))) λx3 h=>(match x3,h with | .inl _,h=>gA (Ae q [4] [] (tS h (Bi []))) | .inr r5,h=>Pz (λst' hk=>tS h (gK hk))))
def M2(aC:Am)(aN:Int):Option Bool:=
 (some (bif (decide ((0:Int)<=aN)) then(decide (aN<(aC.length:Int))) else false))
theorem CZ(h:M2 v0 v4=some v5):sP 193 [(Rp v0),(Ax v4)] [] (.bool v5) []:=
 sG Tryz.func193 λΓ q=>Ae q E6 [] (tU q [4] [] (Za ((decide ((0:Int)<=v4))==true) (c1 (L0 (decide ((0:Int)<=v4))))) (tS h (Bi [])))
def Dv(aC:Am)(aW:Int)(aa4:Int):Xg->Option (LR (Int×Am) (Am ⊕ (Bool×Am))):=
 λ((i1,l2):Xg)=>(bif (i1 !=aa4) then(Aw (A0 i1 l2.length) (bif ((l2.getD i1.toNat 0)!=0) then(Aw (A0 i1 l2.length) (some (.done (.inr (((l2.getD i1.toNat 0)!=(w64 (aW+1))),l2))))) else(Aw (A0 i1 aC.length) ((M2 aC (aC.getD i1.toNat 0)).bind λx7=>(bif (!x7) then(some (.done (.inr (false,l2)))) else(Aw (A0 i1 l2.length) (Aw (A0 i1 aC.length) (some (.next ((aC.getD i1.toNat 0),(l2.set i1.toNat (w64 (aW+1))))))))))))) else(some (.done (.inl l2))))
def cy(Γ:Il)(aC:Am)(aaJ:Am)(aW:Int)(aa4:Int)(r:q8):Exit->St->Prop:=fK Tryz.prog Γ Tryz.f192.results.toList [(AQ 34001 aaJ)] (.bool r.1) [(AQ 34001 r.2)]
def Vq(aC:Am)(aaJ:Am)(aW:Int)(aa4:Int):Option q8:=
 ((Ac (Dv aC aW aa4) (aW,aaJ)).bind (λx10=>(match x10 with|(.inl l3)=>(some (true,l3))|(.inr r12)=>(some r12))))
variable{v32:q8}
theorem cC(h:Vq v0 v1 v4 v13=some v32):sP 192 [(Rp v0),(.vsl 34001 v1.length),(Ax v4),(Ax v13)] [(AQ 34001 v1)] (.bool v32.1) [(AQ 34001 v32.2)]:=
 sG Tryz.func192 λΓ q=>tW q WB [34001] [0,1,2,3,9] [34001] (Ae q GX [34001] (tL q h GX [34001] (λu (i1,l2)=>(Cs u [(1,(.vsl 34001 l2.length)),(C6 10 i1)] [(AQ 34001 l2)])) (λu x_=>match x_ with|(.inl l3)=>aG Γ (.exit 0) (⟨[],[(AQ 34001 l3)],[]⟩:St)|(.inr r_)=>aR (cy Γ v0 v1 v4 v13 r_)) (λ⟨i1,l2⟩ y h=>Ae q [0,1,3,9,10,16] [34001] (gC h (λh=>tC h λc4_ h=>tU q [0,1,3,9,10,25] [34001] (c2 c4_ (Eq.refl l2.length)) (gC h (λh=>tC h λc5_ h=>tU q [8] [34001] (c2 c5_ (Eq.refl l2.length)) (tS h (gO (Lj (Ht jf (Le.refl _ _)))))) λh=>tC h λc6_ h=>tB h λx7 y7 h=>tT q [0,1,3,9,10,38] [34001] [(Z8 x7)] (c2 c6_ (CZ y7)) (gC h (λh=>Ae q [8] [34001] (tS h (gO (Lj (Ht jf (Le.refl _ _)))))) λh=>tC h λc8_ h=>tU q GX [34001] (c2 c8_ (Eq.refl l2.length)) (M4 (Le.trans (Sp 34001 (show ∀ k_,k_<l2.length->AVleL ((λi_=>AV.eraseAll (λn_=>B3 n_ [34001]) ((E0 (λi=>Ay (l2.getD i 0)) i1.toNat 0 [(.int .i64 (w64 (v4+1)))]) i_)) k_) ((λi=>Ay ((l2.set i1.toNat (w64 (v4+1))).getD i 0)) k_) from(Bc (Cm ..).symm (λk_ hk_=>(Bx (AV.eraseAll (λn_=>B3 n_ [34001])) ((Fq (λ_ _=>rfl) (Gs c8_) rfl) k_ hk_)).trans rfl)))) (Sq (λ(k_:Nat) u=>(Cs u [(1,(.vsl 34001 k_))] [(34001,.arr 1 3 k_ (λi=>Ay ((l2.set i1.toNat (w64 (v4+1))).getD i 0)))])) (show l2.length=(l2.set i1.toNat (w64 (v4+1))).length from(Cm ..).symm))) (tV q GX [34001] h λh=>tN h))))) λh=>tS h (gO (Bd (Bk [] [34001] q))))) λx10 h=>(match x10,h with | .inl l3,h=>gA (Ae q [8] [34001] (tS h (Bi jf))) | .inr r12,h=>Pz (λst' hk=>tS h (gK hk)))))
def Hc(aC:Am)(x1:Int):Xg->Option (LR (Int×Am) (Unit ⊕ Bool)):=
 λ((i3,l4):Xg)=>(bif (decide (i3<(aC.length:Int))) then(Aw (A0 i3 aC.length) ((bif (((aC.getD i3.toNat 0)!=-2)==true) then Vq aC l4 i3 x1 else some (false,[])).bind λx6=>(Aw ((((aC.getD i3.toNat 0)!=-2)==true)=true->(l4.length=x6.2.length)) (bif (bif ((aC.getD i3.toNat 0)!=-2) then(!x6.1) else false) then(some (.done (.inr false))) else(some (.next ((w64 (i3+1)),(bif (((aC.getD i3.toNat 0)!=-2)==true) then x6.2 else l4)))))))) else(some (.done (.inl ()))))
def bM(Γ:Il)(aC:Am)(r:Bool):Exit->St->Prop:=fK Tryz.prog Γ Tryz.f177.results.toList [] (.bool r) []
def ry(aC:Am)(i3:Int):=(((aC.getD i3.toNat 0)!=-2)==true)
def T3(aC:Am):Option Bool:=
 ((Dp aC (-1:Int)).bind λx1=>(bif (decide (x1<0)) then(some false) else(Aw (0<=(aC.length:Int)/\(aC.length:Int)<=(aC.length:Int)/\(aC.length:Int)<=(room:Int)) ((Ac (Hc aC x1) ((0:Int),(List.replicate (aC.length:Int).toNat (0:Int)))).bind (λx8=>(match x8 with|(.inl _)=>(some true)|(.inr r10)=>(some r10)))))))
theorem XQ(h:T3 v0=some v5):sP 177 [(Rp v0)] [] (.bool v5) []:=
 sG Tryz.func177 λΓ q=>Ae q [0] [] (tB h λx1 y1 h=>tT q Ou [] [(XA x1)] (c1 (P6 y1)) (Ae q [0,3,9] [] (gC h (λh=>Ae q [2] [] (tS h (Bi []))) λh=>tV q Ik [12] h λh=>by exact M4 (Le.trans (Sp 12 (show ∀ k_,k_<((v0.length:Int).toNat)->AVleL ((λi_=>AV.eraseAll (λn_=>B3 n_ [12]) ((λ_=>[Px]) i_)) k_) ((λi=>Ay ((List.replicate (v0.length:Int).toNat (0:Int)).getD i 0)) k_) from(λk hk=>Mi (e:=Ay) (d:=(0:Int)) (.cons (AVle.refl _) .nil) _ k (Mn hk)))) (Sq (λ(k_:Nat) u=>(Cs u [(4,(.vsl 12 k_))] [(12,.arr 1 3 k_ (λi=>Ay ((List.replicate (v0.length:Int).toNat (0:Int)).getD i 0)))])) (show(v0.length:Int).toNat=(List.replicate (v0.length:Int).toNat (0:Int)).length from(K1 ..).symm))) (Ae q jd [12] (tL q h jd [12] (λu (i3,l4)=>(Cs u [(4,(.vsl 12 l4.length)),(C6 15 i3)] [(AQ 12 l4)])) (λu x_=>match x_ with|(.inl _)=>aG Γ (.exit 0) (⟨[],[],[]⟩:St)|(.inr r_)=>aR (bM Γ v0 r_)) (λ⟨i3,l4⟩ y h=>Ae q [0,3,4,14,15,16] [12] (gC h (λh=>Ae q [0,3,4,5,14,15] [12] (tC h λc5_ h=>tB h λx6 y6 h=>tC h λc7_ h=>tT q [0,3,4,14,15,30] [12] [⟨[(12,34001)],[],(.bool x6.1),[(AQ 34001 x6.2)],[],[]⟩] (ci c5_ (mF (ry v0 i3) (c3 (λ(hg:(ry v0 i3)=true)=>(cC (B0 hg y6))) (gI (ry v0 i3)) (L0 ((v0.getD i3.toNat 0)!=-2))))) (M4 (Le.trans (Sp 12 (show ∀ k_,k_<(bif (ry v0 i3) then x6.2.length else l4.length)->AVleL ((λi_=>AV.eraseAll (λn_=>B3 n_ [12]) ((λi=>bif (ry v0 i3) then(λi=>Ay (x6.2.getD i 0)) i else(λi=>Ay (l4.getD i 0)) i) i_)) k_) ((λi=>Ay ((bif (ry v0 i3) then x6.2 else l4).getD i 0)) k_) from(Bc j8 (λk_ hk_=>(Bx (AV.eraseAll (λn_=>B3 n_ [12])) ((λ_ _=>tk) k_ hk_)).trans rfl)))) (Le.trans (Sq (λ(k_:Nat) u=>(Cs u [] [(12,.arr 1 3 k_ (λi=>Ay ((bif (ry v0 i3) then x6.2 else l4).getD i 0)))])) (show(bif (ry v0 i3) then x6.2.length else l4.length)=(bif (ry v0 i3) then x6.2 else l4).length from j8)) (Sq (λ(k_:Nat) u=>(Cs u [(4,(.vsl 12 k_))] [])) (show l4.length=(bif (ry v0 i3) then x6.2 else l4).length from(tm c7_))))) (gC h (λh=>Ae q [2] [] (tS h (gO (Lj (Ht [] (Le.refl _ _)))))) λh=>Ae q jd [12] (tN h))))) λh=>tS h (gO (Bd (Bk [] [] q))))) λx8 h=>(match x8,h with | .inl _,h=>gA (Ae q [2] [] (tS h (Bi []))) | .inr r10,h=>Pz (λst' hk=>tS h (gK hk))))))))
def Nq(aC:Am)(aN:Int):Option Bool:=
 ((M2 aC aN).bind λx1=>(Aw ((x1==true)=true->(A0 aN aC.length)) (some (bif x1 then((aC.getD aN.toNat 0)!=-2) else false))))
theorem Zh(h:Nq v0 v4=some v5):sP 178 [(Rp v0),(Ax v4)] [] (.bool v5) []:=
 sG Tryz.func178 λΓ q=>Ae q E6 [] (tB h λx1 y1 h=>tC h λc2_ h=>tT q [4] [] [(Z8 x1)] (ci (CZ y1) (Lz (x1==true) (ci c2_ (Lz (x1==true) (c1 (L0 x1)))))) (tS h (Bi [])))
def Vp(aC:Am)(aD:Int)(aE:Int):Option Bool:=
 ((T3 aC).bind λx1=>((bif (x1==true) then Nq aC aD else some false).bind λx2=>((bif ((bif x1 then x2 else false)==true) then Nq aC aE else some false).bind λx3=>(some (bif (bif x1 then x2 else false) then x3 else false)))))
theorem cB(h:Vp v0 v4 v13=some v5):sP 165 [(Rp v0),(Ax v4),(Ax v13)] [] (.bool v5) []:=
 sG Tryz.func165 λΓ q=>Ae q Zv [] (tB h λx1 y1 h=>tB h λx2 y2 h=>tB h λx3 y3 h=>tT q [6] [] [(Z8 x1),(Z8 x2),(Z8 x3)] (ci (XQ y1) (Lz (x1==true) (SB (λ(hg:(x1==true)=true)=>(Zh (B0 hg y2))) (L0 x1) (Lz ((bif x1 then x2 else false)==true) (c2 (λ(hg:((bif x1 then x2 else false)==true)=true)=>(Zh (B0 hg y3))) (L0 (bif x1 then x2 else false))))))) (tS h (Bi [])))
def Yb(aC:Am)(aD:Int)(aE:Int):Option Bool:=
 ((Vp aC aD aE).bind λx1=>((bif (x1==true) then R7 aC aD aE else some (0:Int)).bind λx2=>(some (bif x1 then(x2==aD) else false))))
theorem ez(h:Yb v0 v4 v13=some v5):sP 133 [(Rp v0),(Ax v4),(Ax v13)] [] (.bool v5) []:=
 sG Tryz.func133 λΓ q=>Ae q Zv [] (tB h λx1 y1 h=>tB h λx2 y2 h=>tT q [6] [] [(Z8 x1),(XA x2)] (ci (cB y1) (Za (x1==true) (ci (λ(hg:(x1==true)=true)=>(NX (B0 hg y2))) (Lz (x1==true) (c1 (L0 x1)))))) (tS h (Bi [])))
def Io(aX:Bj)(a6:TFunc)(aB:Int)(a2:Am)(a4:List Pb)(a3:List Bj):Option EB:=
 (bif (((H8 (default:A1) a4 aX.v).place.block:Int)==aX.place.block) then(some ((decide (((H8 (default:A1) a4 aX.v).place.at_:Int)<aX.place.at_)),a6,aB,a2,a3)) else((Yb a2 ((H8 (default:A1) a4 aX.v).place.block) aX.place.block).bind λx1=>(some (x1,a6,aB,a2,a3))))
theorem Wd(h:Io v31 v3 v4 v0 v26 v14=some v24):sP 102 [(Ha 30000),(.agg (Oj v31))] [(Z2 v3.Params v3.Ret v3.Blocks v4 v0 9100005 v14),(Ng 37006 152 v14.length),(9100005,.obj (.map false .i64 (D6 (λ(v_:A1)=>((Xt v_):AV)) v26)))] (.bool v24.1) [(Z2 v24.2.1.Params v24.2.1.Ret v24.2.1.Blocks v24.2.2.1 v24.2.2.2.1 9100005 v24.2.2.2.2),(Ng 37006 152 v24.2.2.2.2.length),(9100005,.obj (.map false .i64 (D6 (λ(v_:A1)=>((Xt v_):AV)) v26)))]:=
 sG Tryz.func102 λΓ q=>Ae q Ou My (gR q [0,3,5] KG [(12,(vt v26 v31.v))] [] (c1 (show(AVle (H8 (.agg [Px,Px,Px,Px]) (D6 (λ(v_:A1)=>((Xt v_):AV)) v26) v31.v) (vt v26 v31.v)) from(b6 (f:=(λ(v_:A1)=>((Xt v_):AV))) (l:=v26) (AVle.refl _) rfl))) (Ae q [0,3,5,19] KG (gC h (λh=>Ae q [4] Ja (tS h (Bi Tx))) λh=>tB h λx1 y1 h=>tT q [4] Ja [(Z8 x1)] (c1 (ez y1)) (tS h (Bi Tx)))))
abbrev yZ:=(LR (Int×Am×Int×List Aj×Int×Am×List Bj) ((Am×Int×List Aj×Int×Am×List Bj) ⊕ (Am×Int×List Aj×Int×Am×List Bj)))
def F2(a4:List Pb)(x8:vh):Tq->Option yZ:=
 λ((i9,l10,i11,l12,i13,l14,l15):Tq)=>(bif (decide (i9<(x8.2.2.2.length:Int))) then(Aw (A0 i9 x8.2.2.2.length) ((Lr (x8.2.2.2.getD i9.toNat default) (⟨l10,i11,l12⟩:TFunc) i13 l14 a4 l15).bind λx29=>(bif (!x29.1) then(some (.done (.inr (x29.2.1.Params,x29.2.1.Ret,x29.2.1.Blocks,x29.2.2.1,x29.2.2.2.1,x29.2.2.2.2)))) else(some (.next ((w64 (i9+1)),x29.2.1.Params,x29.2.1.Ret,x29.2.1.Blocks,x29.2.2.1,x29.2.2.2.1,x29.2.2.2.2)))))) else(some (.done (.inl (l10,i11,l12,i13,l14,l15)))))
def F3(a4:List Pb)(l21:List Bj):Tq->Option yZ:=
 λ((i32,l33,i34,l35,i36,l37,l38):Tq)=>(bif (decide (i32<(l21.length:Int))) then(Aw (A0 i32 l21.length) ((Nn (l21.getD i32.toNat default) (⟨l33,i34,l35⟩:TFunc) i36 l37 a4 l38).bind λx52=>(bif (!x52.1) then(some (.done (.inr (x52.2.1.Params,x52.2.1.Ret,x52.2.1.Blocks,x52.2.2.1,x52.2.2.2.1,x52.2.2.2.2)))) else(some (.next ((w64 (i32+1)),x52.2.1.Params,x52.2.1.Ret,x52.2.1.Blocks,x52.2.2.1,x52.2.2.2.1,x52.2.2.2.2)))))) else(some (.done (.inl (l33,i34,l35,i36,l37,l38)))))
def F4(a4:List Pb)(l44:List Bj):Tq->Option yZ:=
 λ((i55,l56,i57,l58,i59,l60,l61):Tq)=>(bif (decide (i55<(l44.length:Int))) then(Aw (A0 i55 l44.length) ((Io (l44.getD i55.toNat default) (⟨l56,i57,l58⟩:TFunc) i59 l60 a4 l61).bind λx75=>(bif (!x75.1) then(some (.done (.inr (x75.2.1.Params,x75.2.1.Ret,x75.2.1.Blocks,x75.2.2.1,x75.2.2.2.1,x75.2.2.2.2)))) else(some (.next ((w64 (i55+1)),x75.2.1.Params,x75.2.1.Ret,x75.2.1.Blocks,x75.2.2.1,x75.2.2.2.1,x75.2.2.2.2)))))) else(some (.done (.inl (l56,i57,l58,i59,l60,l61)))))
def P0 :Tq->Option (LR (Int×Am×Int×List Aj×Int×Am×List Bj) (Int×TFunc×Int×Am×List Bj)):=
 λ(s_:Tq)=>match s_ with|(i1,l2,i3,l4,i5,l6,l7)=>(some (.done (i1,(⟨l2,i3,l4⟩:TFunc),i5,l6,l7)))
def BN(Γ:Il)(a6:TFunc)(aB:Int)(a2:Am)(a4:List Pb)(a3:List Bj)(r:m9):Exit->St->Prop:=fK Tryz.prog Γ Tryz.f75.results.toList [(Z2 a6.Params a6.Ret a6.Blocks aB a2 9100005 a3),(Ng 37006 152 a3.length),(9100005,.obj (.map false .i64 (D6 (λ(v_:A1)=>((Xt v_):AV)) a4)))] (Ax r.1) [(Z2 r.2.1.Params r.2.1.Ret r.2.1.Blocks r.2.2.1 r.2.2.2.1 9100005 r.2.2.2.2),(Ng 37006 152 r.2.2.2.2.length),(9100005,.obj (.map false .i64 (D6 (λ(v_:A1)=>((Xt v_):AV)) a4)))]
def zj(a4:List Pb):=(D6 (λ(v_:A1)=>((Xt v_):AV)) a4)
def Km(a6:TFunc)(aB:Int)(a2:Am)(a4:List Pb)(a3:List Bj):Option m9:=
 ((N6 (S:=Tq) (X:=m9) ((Im a6 aB a2 a4 a3).bind λx8=>((Ac (F2 a4 x8) ((0:Int),x8.1.Params,x8.1.Ret,x8.1.Blocks,x8.2.1,x8.2.2.1,x8.2.2.2)).bind (λx30=>(match x30 with|(.inl (l16,i17,l18,i19,l20,l21))=>((Ac (F3 a4 l21) ((0:Int),l16,i17,l18,i19,l20,l21)).bind (λx53=>(match x53 with|(.inl (l39,i40,l41,i42,l43,l44))=>((Ac (F4 a4 l44) ((0:Int),l39,i40,l41,i42,l43,l44)).bind (λx76=>(match x76 with|(.inl (l62,i63,l64,i65,l66,l67))=>(some (.done ((0:Int),(⟨l62,i63,l64⟩:TFunc),i65,l66,l67)))|(.inr (l68,i69,l70,i71,l72,l73))=>(some (.next ((7:Int),l68,i69,l70,i71,l72,l73))))))|(.inr (l45,i46,l47,i48,l49,l50))=>(some (.next ((6:Int),l45,i46,l47,i48,l49,l50))))))|(.inr (l22,i23,l24,i25,l26,l27))=>(some (.next ((7:Int),l22,i23,l24,i25,l26,l27))))))) P0).bind (λx81=>(some x81)))
theorem AY(h:Km v3 v4 v0 v26 v14=some v15):sP 75 Y7 [(Z2 v3.Params v3.Ret v3.Blocks v4 v0 9100005 v14),(Ng 37006 152 v14.length),(9100005,.obj (.map false .i64 (D6 (λ(v_:A1)=>((Xt v_):AV)) v26)))] (Ax v15.1) [(Z2 v15.2.1.Params v15.2.1.Ret v15.2.1.Blocks v15.2.2.1 v15.2.2.2.1 9100005 v15.2.2.2.2),(Ng 37006 152 v15.2.2.2.2.length),(9100005,.obj (.map false .i64 (D6 (λ(v_:A1)=>((Xt v_):AV)) v26)))]:=
 sG Tryz.func75 λΓ q=>Ae q [0] Ja (tB h λx81 y81 h=>gS y81 (λ(s_:Tq)=>match s_ with|(i1,l2,i3,l4,i5,l6,l7)=>0) (λ(s_:Tq)=>match s_ with|(i1,l2,i3,l4,i5,l6,l7)=>(⟨[(4,(Ax i1))],(z6 l2 i3 l4 i5 l6 l7 l7.length (zj v26)),[]⟩:St)) (λr_=>aR (BN Γ v3 v4 v0 v26 v14 r_)) (λy h=>tB h λx8 y8 h=>tT q [0] Ja [(Z49 x8.1.Params x8.1.Ret x8.1.Blocks x8.2.1 x8.2.2.1 x8.2.2.2 x8.2.2.2.length (zj v26))] (c1 (Wb y8)) (tW q Ou My Ou My (Ae q GY Ja (gU 3 (Ae q cl Ja (CJ true (tU q jo Pd (c1 (show(A0 (0:Int) 3) from(by decide))) (tW q je Pd KH Pd (tL q h KH Pd (λu (i9,l10,i11,l12,i13,l14,l15)=>(Cs u [(C6 32 i9)] (bV l10 i11 l12 i13 l14 l15 l15.length))) (λu x_=>match x_ with|(.inl (l16,i17,l18,i19,l20,l21))=>aG Γ (.exit 2) (Oz GY Ja u [] (bV l16 i17 l18 i19 l20 l21 l21.length))|(.inr (l22,i23,l24,i25,l26,l27))=>aG Γ (.goto 0) (Oz [4] Ja u [] (bV l22 i23 l24 i25 l26 l27 l27.length))) (λ⟨i9,l10,i11,l12,i13,l14,l15⟩ y h=>Ae q jN Pd (gC h (λh=>tV q jP jS h λh=>tB h λx29 y29 h=>tT q jO Pd [(xK x29.1 x29.2.1.Params x29.2.1.Ret x29.2.1.Blocks x29.2.2.1 x29.2.2.2.1 x29.2.2.2.2 x29.2.2.2.2.length (zj v26))] (c1 (We y29)) (gC h (λh=>tS h (gO (Bd (Bk [4] Ja q)))) λh=>Ae q KH Pd (tN h))) λh=>tS h (gO (Bd (Bk GY Ja q))))) λx30 h=>(match x30,h with | .inl ⟨l16,i17,l18,i19,l20,l21⟩,h=>gA (tW q GY Ja cl Ja (CJ true (tU q jo Pd (c1 (show(A0 (1:Int) 3) from(by decide))) (tW q je Pd KH Pd (tL q h KH Pd (λu (i32,l33,i34,l35,i36,l37,l38)=>(Cs u [(C6 32 i32)] (bV l33 i34 l35 i36 l37 l38 l38.length))) (λu x_=>match x_ with|(.inl (l39,i40,l41,i42,l43,l44))=>aG Γ (.exit 2) (Oz GY Ja u [] (bV l39 i40 l41 i42 l43 l44 l44.length))|(.inr (l45,i46,l47,i48,l49,l50))=>aG Γ (.goto 0) (Oz [4] Ja u [] (bV l45 i46 l47 i48 l49 l50 l50.length))) (λ⟨i32,l33,i34,l35,i36,l37,l38⟩ y h=>Ae q jN Pd (gC h (λh=>tV q jP jS h λh=>tB h λx52 y52 h=>tT q jO Pd [(xK x52.1 x52.2.1.Params x52.2.1.Ret x52.2.1.Blocks x52.2.2.1 x52.2.2.2.1 x52.2.2.2.2 x52.2.2.2.2.length (zj v26))] (c1 (AW y52)) (gC h (λh=>tS h (gO (Bd (Bk [4] Ja q)))) λh=>Ae q KH Pd (tN h))) λh=>tS h (gO (Bd (Bk GY Ja q))))) λx53 h=>(match x53,h with | .inl ⟨l39,i40,l41,i42,l43,l44⟩,h=>gA (tW q GY Ja cl Ja (CJ true (tU q jo Pd (c1 (show(A0 (2:Int) 3) from(by decide))) (tW q je Pd KH Pd (tL q h KH Pd (λu (i55,l56,i57,l58,i59,l60,l61)=>(Cs u [(C6 32 i55)] (bV l56 i57 l58 i59 l60 l61 l61.length))) (λu x_=>match x_ with|(.inl (l62,i63,l64,i65,l66,l67))=>aG Γ (.exit 2) (Oz GY Ja u [] (bV l62 i63 l64 i65 l66 l67 l67.length))|(.inr (l68,i69,l70,i71,l72,l73))=>aG Γ (.goto 0) (Oz [4] Ja u [] (bV l68 i69 l70 i71 l72 l73 l73.length))) (λ⟨i55,l56,i57,l58,i59,l60,l61⟩ y h=>Ae q jN Pd (gC h (λh=>tV q jP jS h λh=>tB h λx75 y75 h=>tT q jO Pd [(xK x75.1 x75.2.1.Params x75.2.1.Ret x75.2.1.Blocks x75.2.2.1 x75.2.2.2.1 x75.2.2.2.2 x75.2.2.2.2.length (zj v26))] (c1 (Wd y75)) (gC h (λh=>tS h (gO (Bd (Bk [4] Ja q)))) λh=>Ae q KH Pd (tN h))) λh=>tS h (gO (Bd (Bk GY Ja q))))) λx76 h=>(match x76,h with | .inl ⟨l62,i63,l64,i65,l66,l67⟩,h=>gA (tW q GY Ja cl Ja (CJ false (Ae q [2] Ja (tS h (WS (Lj (Ht Tx (Le.refl _ _)))))))) | .inr ⟨l68,i69,l70,i71,l72,l73⟩,h=>nJ (λst' hl78=>tS h (mG (Le.trans hl78 Jh))))))))) | .inr ⟨l45,i46,l47,i48,l49,l50⟩,h=>nJ (λst' hl79=>tS h (mG (Le.trans hl79 Jh))))))))) | .inr ⟨l22,i23,l24,i25,l26,l27⟩,h=>nJ (λst' hl80=>tS h (mG (Le.trans hl80 Jh))))))))))))) (λ⟨i1,l2,i3,l4,i5,l6,l7⟩ y h=>Ae q [2] Ja (tS h (WS (Lj (Ht Tx (Le.refl _ _)))))) (Pz (λst' hk=>tS h (gK hk))))
def nT:=(λ(v_:A1)=>((Xt v_):AV))
def Q97(x1:m9):List Uc:=(Z3 x1.2.1.Params x1.2.1.Ret x1.2.1.Blocks x1.2.2.1 x1.2.2.2.1 x1.2.2.2.2 x1.2.2.2.2.length)
def Q98(x2:m9):List Uc:=(Z3 x2.2.1.Params x2.2.1.Ret x2.2.1.Blocks x2.2.2.1 x2.2.2.2.1 x2.2.2.2.2 x2.2.2.2.2.length)
def Q99(x3:m9):List Uc:=(Z3 x3.2.1.Params x3.2.1.Ret x3.2.1.Blocks x3.2.2.1 x3.2.2.2.1 x3.2.2.2.2 x3.2.2.2.2.length)
def Jy(a6:TFunc)(aB:Int)(a2:Am)(a3:List Bj):Option vg:=
 ((Kl a6 aB a2 a3).bind λx1=>(bif (x1.1 !=0) then(some (x1.1,x1.2.1,x1.2.2.1,x1.2.2.2.1,x1.2.2.2.2,([]:List Pb))) else((Jc x1.2.1 x1.2.2.1 x1.2.2.2.1 x1.2.2.2.2).bind λx2=>(bif (x2.1 !=0) then(some (x2.1,x2.2.1,x2.2.2.1,x2.2.2.2.1,x2.2.2.2.2,([]:List Pb))) else((Jx x2.2.1 x2.2.2.1 x2.2.2.2.1 x2.2.2.2.2).bind λx3=>(bif (x3.1 !=0) then(some (x3.1,x3.2.1,x3.2.2.1,x3.2.2.2.1,x3.2.2.2.2,([]:List Pb))) else((In x3.2.1 x3.2.2.1 x3.2.2.2.1 x3.2.2.2.2).bind λx4=>(bif (x4.1 !=0) then(some (x4.1,x4.2.1,x4.2.2.1,x4.2.2.2.1,x4.2.2.2.2.1,x4.2.2.2.2.2)) else((Km x4.2.1 x4.2.2.1 x4.2.2.2.1 x4.2.2.2.2.2 x4.2.2.2.2.1).bind λx5=>(bif (x5.1 !=0) then(some (x5.1,x5.2.1,x5.2.2.1,x5.2.2.2.1,x5.2.2.2.2,x4.2.2.2.2.2)) else(some ((0:Int),x5.2.1,x5.2.2.1,x5.2.2.2.1,x5.2.2.2.2,x4.2.2.2.2.2))))))))))))
theorem Yi(h:Jy v3 v4 v0 v14=some v28):sP 47 Y7 (Z3 v3.Params v3.Ret v3.Blocks v4 v0 v14 v14.length) (Ax v28.1) [(Z2 v28.2.1.Params v28.2.1.Ret v28.2.1.Blocks v28.2.2.1 v28.2.2.2.1 9200005 v28.2.2.2.2.1),(Ng 37006 152 v28.2.2.2.2.1.length),(9200005,.obj (.map false .i64 (D6 (λ(v_:A1)=>((Xt v_):AV)) v28.2.2.2.2.2)))]:=
 sG Tryz.func47 λΓ q=>tW q [0] D4 [3] VO (Ae q NG D4 (gU 5 (Ae q ND D4 (CJ true (tU q WF D4 (c1 (show(A0 (0:Int) 5) from(by decide))) (tB h λx1 y1 h=>tT q WG D4 [(xM x1.1 (Q97 x1))] (c1 (AX y1)) (Ae q VT D4 (gC h (λh=>Ae q [2] D4 (Ox (⟨[(2,(Ax x1.1))],(Q97 x1),[]⟩:St) (tS h (gK (e:=.ret) (Ht rl (Le.trans (X9 (r:=30000) (j:=5) (nm:=9300005) .i64 rfl rfl (nl rfl) rfl) (Bk (st':=⟨[(2,(Ax x1.1))],[(Z2 x1.2.1.Params x1.2.1.Ret x1.2.1.Blocks x1.2.2.1 x1.2.2.2.1 9300005 x1.2.2.2.2),(Ng 37006 152 x1.2.2.2.2.length),(9300005,.obj (.map false .i64 (D6 nT ([]:List Pb))))],[]⟩) [2] jV q))))))) λh=>tW q NG D4 ND D4 (CJ true (tU q WF D4 (c1 (show(A0 (1:Int) 5) from(by decide))) (tB h λx2 y2 h=>tT q WG D4 [(xM x2.1 (Q98 x2))] (c1 (W5 y2)) (Ae q VT D4 (gC h (λh=>Ae q [2] D4 (Ox (⟨[(2,(Ax x2.1))],(Q98 x2),[]⟩:St) (tS h (gK (e:=.ret) (Ht rl (Le.trans (X9 (r:=30000) (j:=5) (nm:=9300005) .i64 rfl rfl (nl rfl) rfl) (Bk (st':=⟨[(2,(Ax x2.1))],[(Z2 x2.2.1.Params x2.2.1.Ret x2.2.1.Blocks x2.2.2.1 x2.2.2.2.1 9300005 x2.2.2.2.2),(Ng 37006 152 x2.2.2.2.2.length),(9300005,.obj (.map false .i64 (D6 nT ([]:List Pb))))],[]⟩) [2] jV q))))))) λh=>tW q NG D4 ND D4 (CJ true (tU q WF D4 (c1 (show(A0 (2:Int) 5) from(by decide))) (tB h λx3 y3 h=>tT q WG D4 [(xM x3.1 (Q99 x3))] (c1 (Yh y3)) (Ae q VT D4 (gC h (λh=>Ae q [2] D4 (Ox (⟨[(2,(Ax x3.1))],(Q99 x3),[]⟩:St) (tS h (gK (e:=.ret) (Ht rl (Le.trans (X9 (r:=30000) (j:=5) (nm:=9300005) .i64 rfl rfl (nl rfl) rfl) (Bk (st':=⟨[(2,(Ax x3.1))],[(Z2 x3.2.1.Params x3.2.1.Ret x3.2.1.Blocks x3.2.2.1 x3.2.2.2.1 9300005 x3.2.2.2.2),(Ng 37006 152 x3.2.2.2.2.length),(9300005,.obj (.map false .i64 (D6 nT ([]:List Pb))))],[]⟩) [2] jV q))))))) λh=>tW q NG D4 ND D4 (CJ true (tU q WF D4 (c1 (show(A0 (3:Int) 5) from(by decide))) (tB h λx4 y4 h=>tT q WG Zt [⟨Zs,[(9200005,13000005)],(Ax x4.1),[(Z2 x4.2.1.Params x4.2.1.Ret x4.2.1.Blocks x4.2.2.1 x4.2.2.2.1 9200005 x4.2.2.2.2.1),(Ng 37006 152 x4.2.2.2.2.1.length),(9200005,.obj (.map false .i64 (D6 nT x4.2.2.2.2.2)))],[],[]⟩] (c1 (Wc y4)) (Ae q VT Zt (gC h (λh=>Ae q [2] Zt (tS h (Bi rj))) λh=>tW q NG Zt ND Zt (CJ true (tU q WF Zt (c1 (show(A0 (4:Int) 5) from(by decide))) (tB h λx5 y5 h=>tT q WG Zt [⟨[(30000,30000),(37006,37006),(13000005,9100005)],[],(Ax x5.1),[(Z2 x5.2.1.Params x5.2.1.Ret x5.2.1.Blocks x5.2.2.1 x5.2.2.2.1 9100005 x5.2.2.2.2),(Ng 37006 152 x5.2.2.2.2.length),(9100005,.obj (.map false .i64 (D6 nT x4.2.2.2.2.2)))],[],[]⟩] (c1 (AY y5)) (Ae q VT Zt (gC h (λh=>Ae q [2] Zt (tS h (Bi rj))) λh=>tW q NG Zt ND Zt (CJ false (Ae q [2] Zt (tS h (Bi rj))))))))))))))))))))))))))))))))
set_option maxRecDepth 100000
set_option maxHeartbeats 2000000
def yp(a1:TFunc)(aa0:Int):AV:=(.agg [(Rp a1.Params),(Ax a1.Ret),(YL a1.Blocks),(Ax aa0),oC,.nilm,(AV.list 5 Oj default ([]:List Bj) .exact)])
def yo(a1:TFunc)(aa0:Int):=(⟨[PN],[(5,.row 109 [(Rp a1.Params),(Ax a1.Ret),(YL a1.Blocks),(Ax aa0),oC,.nilm,(AV.list 5 Oj default ([]:List Bj) .exact)])],[]⟩:St)
def wa(a1:TFunc)(aa0:Int):=(⟨[PN],[(5,.row 109 [(Rp a1.Params),(Ax a1.Ret),(YL a1.Blocks),(Ax aa0),oC,.nilm,(AV.list 5 Oj default ([]:List Bj) (.own 50506))]),(50506,.tok 5 152 (([]:List Bj).length))],[]⟩:St)
def O6(a1:TFunc)(aa0:Int):Option Int:=
 (bif (bif (decide (aa0<0)) then true else(decide ((2:Int)<aa0))) then(some (1:Int)) else((Jy a1 aa0 ([]:Am) ([]:List Bj)).bind λx1=>(some x1.1)))
theorem TG(h:O6 v3 v4=some v13):sP 26 [(XC v3),(Ax v4)] [] (.int .i64 v13) []:=
 sG Tryz.func26 λΓ q=>Ae q Pe [2] (tU q [1,2,11] [2] (c2 (gI ((decide (v4<0))==false)) (Ld (decide (v4<0)))) (gC h (λh=>Ae q [4] [] (tS h (Bi []))) λh=>gR q [5] [5] [(14,(yp v3 v4))] [] (c1 (show(AVle (.agg [(Rp v3.Params),(Ax v3.Ret),(YL v3.Blocks),(Ax v4),dO,.nilm,dO]) (yp v3 v4)) from(AVle.agg (.cons (AVle.refl _) (.cons (AVle.refl _) (.cons (AVle.refl _) (.cons (AVle.refl _) (.cons He (.cons (AVle.refl _) (.cons He .nil)))))))))) (Ox (yo v3 v4) (M4 (show Le Γ _ (wa v3 v4) from Le.trans (Bk (st':=(yo v3 v4)) [5] [5] q) (Le.trans (NT (r:=5) (j:=6) (nm:=50506) (sz':=5) (λi=>Oj (([]:List Bj).getD i default)) 152 rfl rfl (nl rfl) rfl (.inl ⟨rfl,rfl⟩) (λh_=>absurd h_ (by decide))) (Bk (st':=(wa v3 v4)) [5] [5,50506] q))) (M4 (show Le Γ _ (⟨[PN],[(5,.row 109 [(Rp v3.Params),(Ax v3.Ret),(YL v3.Blocks),(Ax v4),(AV.list 1 Ay 0 ([]:Am) .none),.nilm,(AV.list 5 Oj default ([]:List Bj) (.own 50506))]),(50506,.tok 5 152 (([]:List Bj).length))],[]⟩:St) from Le.trans (Bk (st':=(wa v3 v4)) [5] [5,50506] q) (J8 (.cons (AVle.refl _) .nil) (.row (.cons (AVle.refl _) (.cons (AVle.refl _) (.cons (AVle.refl _) (.cons (AVle.refl _) (.cons AVle.untag (.cons (AVle.refl _) (.cons (AVle.refl _) .nil))))))) (.same .nil)))) (tB h λx1 y1 h=>tT q [4] [] [⟨[(5,30000),(50506,37006)],[(9200005,10000505)],(Ax x1.1),[(Z2 x1.2.1.Params x1.2.1.Ret x1.2.1.Blocks x1.2.2.1 x1.2.2.2.1 9200005 x1.2.2.2.2.1),(Ng 37006 152 x1.2.2.2.2.1.length),(9200005,.obj (.map false .i64 (D6 (λ(v_:A1)=>((Xt v_):AV)) x1.2.2.2.2.2)))],[],[]⟩] (c1 (Yi y1)) (tS h (Bi []))))))))
def Ph(a1:TFunc)(i2:Int):Hr->Option sJ:=
 λ((i5,i6):Hr)=>(bif (decide (i6<(((a1.Blocks.getD i2.toNat default).Phis).length:Int))) then(Aw (A0 i6 ((a1.Blocks.getD i2.toNat default).Phis).length) (some (.next ((if i5<(((a1.Blocks.getD i2.toNat default).Phis).getD i6.toNat default).Dst then(((a1.Blocks.getD i2.toNat default).Phis).getD i6.toNat default).Dst else i5),(w64 (i6+1)))))) else(some (.done i5)))
def Pi(a1:TFunc)(i2:Int):Hr->Option sJ:=
 λ((i11,i12):Hr)=>(bif (decide (i12<(((a1.Blocks.getD i2.toNat default).Ops).length:Int))) then(Aw (A0 i12 ((a1.Blocks.getD i2.toNat default).Ops).length) (some (.next ((if i11<(((a1.Blocks.getD i2.toNat default).Ops).getD i12.toNat default).Dst then(((a1.Blocks.getD i2.toNat default).Ops).getD i12.toNat default).Dst else i11),(w64 (i12+1)))))) else(some (.done i11)))
def Tg(a1:TFunc):Hr->Option sJ:=
 λ((i1,i2):Hr)=>(bif (decide (i2<(a1.Blocks.length:Int))) then(Aw (A0 i2 a1.Blocks.length) ((Ac (Ph a1 i2) (i1,(0:Int))).bind (λx9=>((Ac (Pi a1 i2) (x9,(0:Int))).bind (λx15=>(some (.next (x15,(w64 (i2+1)))))))))) else(some (.done i1)))
def Qq(a1:TFunc):Option Int:=
 ((Ac (Tg a1) ((a1.Params.length:Int),(0:Int))).bind (λx17=>(some x17)))
theorem XO(h:Qq v3=some v4):sP 27 [(XC v3)] [] (.int .i64 v4) []:=
 sG Tryz.func27 λΓ q=>tW q [1] [1] Mz [1] (Ae q VU [] (tL q h VU [] (λu (i1,i2)=>(Cs u [(3,(Ax i1)),(C6 16 i2)] [])) (λu i3=>aG Γ (.exit 0) (⟨[(3,(Ax i3))],[],[]⟩:St)) (λ⟨i1,i2⟩ y h=>Ae q [3,14,15,16,17] [] (gC h (λh=>tV q ja [5] h λh=>Ae q lB [5] (tL q h lB [5] (λu (i5,i6)=>(Cs u [(3,(Ax i5)),(C6 23 i6)] [])) (λu i7=>aG Γ (.exit 2) (Oz ja [5] u [(3,(Ax i7))] [])) (λ⟨i5,i6⟩ y h=>Ae q [3,5,14,15,16,21,22,23,24] [5] (gC h (λh=>tV q [3,5,7,14,15,16,21,22,23] [5,7] h λh=>tW q lB [5] lB [5] (tN h)) λh=>tS h (gO (Bd (Bk ja [5] q))))) λx9 h=>gA (Ae q lF [] (tL q h lF [] (λu (i11,i12)=>(Cs u [(3,(Ax i11)),(C6 35 i12)] [])) (λu i13=>aG Γ (.exit 4) (Oz VU [] u [(3,(Ax i13))] [])) (λ⟨i11,i12⟩ y h=>Ae q [3,14,15,16,33,34,35,36] [] (gC h (λh=>tV q [3,9,14,15,16,33,34,35] [9] h λh=>tW q lF [] lF [] (tN h)) λh=>tS h (gO (Bd (Bk VU [] q))))) λx15 h=>gA (Ae q VU [] (tN h)))))) λh=>tS h (gO (Bd (Bk [3] [] q))))) λx17 h=>gA (Ae q [2] [] (tS h (Bi [])))))
def Qv(a2:Ey)(a4:Int)(a3:Int)(a7:Am)(a5:List Ad):Option Unit:=
 (some ())
variable{v33:List Ad}{v34:Unit}
theorem W7(h:Qv v16 v4 v13 v0 v33=some v34):sP 50 [(Ha 30000),(.clo 51 [] [])] (Z6 v16 v4 v13 v0 v33 v33.length) (.clo 78 [] [(.rpo [(.clo 51 [] [])]),(.rpo Y7)]) (Z6 v16 v4 v13 v0 v33 v33.length):=
 sG Tryz.func50 λΓ q=>gR q B7 Xl [(2,(.rpo [])),(3,(.rpo []))] [] trivial (Ae q [4] Xl (tS h (Bi IB)))
def On(a2:Ey)(a4:Int)(a3:Int)(a7:Am)(a5:List Ad):Option Unit:=
 (some ())
theorem Uz(h:On v16 v4 v13 v0 v33=some v34):sP 50 [(Ha 30000),(.clo 52 [] [])] (Z6 v16 v4 v13 v0 v33 v33.length) (.clo 78 [] [(.rpo [(.clo 52 [] [])]),(.rpo Y7)]) (Z6 v16 v4 v13 v0 v33 v33.length):=
 sG Tryz.func50 λΓ q=>gR q B7 Xl [(2,(.rpo [])),(3,(.rpo []))] [] trivial (Ae q [4] Xl (tS h (Bi IB)))
def Qu(a2:Ey)(a4:Int)(a3:Int)(a7:Am)(a5:List Ad):Option Unit:=
 (some ())
theorem W6(h:Qu v16 v4 v13 v0 v33=some v34):sP 55 [(Ha 30000),(.clo 53 Y7 [])] (Z6 v16 v4 v13 v0 v33 v33.length) (.clo 82 [] [(.rpo Y7),(.rpo [(.clo 53 Y7 [])])]) (Z6 v16 v4 v13 v0 v33 v33.length):=
 sG Tryz.func55 λΓ q=>gR q B7 Xl [(2,(.rpo [])),(3,(.rpo []))] [] trivial (Ae q [4] Xl (tS h (Bi IB)))
def Ol(a2:Ey)(a4:Int)(a3:Int)(a7:Am)(a5:List Ad):Option Unit:=
 (some ())
theorem Ux(h:Ol v16 v4 v13 v0 v33=some v34):sP 55 [(Ha 30000),(.clo 54 Y7 [])] (Z6 v16 v4 v13 v0 v33 v33.length) (.clo 82 [] [(.rpo Y7),(.rpo [(.clo 54 Y7 [])])]) (Z6 v16 v4 v13 v0 v33 v33.length):=
 sG Tryz.func55 λΓ q=>gR q B7 Xl [(2,(.rpo [])),(3,(.rpo []))] [] trivial (Ae q [4] Xl (tS h (Bi IB)))
def Bo(aP:Int)(a2:Ey)(a4:Int)(a3:Int)(a7:Am)(a5:List Ad):Option Unit:=
 (some ())
theorem Bq(h:Bo v4 v16 v13 v21 v0 v33=some v34):sP 56 [(Ha 30000),(Ax v4)] (Z6 v16 v13 v21 v0 v33 v33.length) (tZ v4) (Z6 v16 v13 v21 v0 v33 v33.length):=
 sG Tryz.func56 λΓ q=>gR q B7 Xl [(2,(.rpo [])),(3,(.rpo []))] [] trivial (Ae q [4] Xl (tS h (Bi IB)))
def Om(aaM:Int)(a2:Ey)(a4:Int)(a3:Int)(a7:Am)(a5:List Ad):Option Unit:=
 (some ())
theorem Uy(h:Om v4 v16 v13 v21 v0 v33=some v34):sP 55 [(Ha 30000),(tZ v4)] (Z6 v16 v13 v21 v0 v33 v33.length) (.clo 82 [] [(.rpo Y7),(.rpo [(tZ v4)])]) (Z6 v16 v13 v21 v0 v33 v33.length):=
 sG Tryz.func55 λΓ q=>gR q B7 Xl [(2,(.rpo [])),(3,(.rpo []))] [] trivial (Ae q [4] Xl (tS h (Bi IB)))
def Xs:List AV:=Y7
def AD(a5:List Ad):Own:=(.tok 3 49 a5.length)
def AC(a2:Ey):Own:=(.arr 1 26 a2.length (λi=>D7 (a2.getD i [])))
def AB(a7:Am):Own:=(.arr 1 5 a7.length (λi=>Qi (a7.getD i 0)))
def AA(a7:Am)(a5:List Ad):Own:=(.row 79 (WO 35100 a7.length a5 37101))
def Z0(a2:Ey)(a4:Int)(a3:Int):Own:=(.row 85 [(Ha 30001),.nilm,(.vsl 35002 a2.length),(Ax a4),(Ax a3)])
def Zz(a2:Ey)(a4:Int)(a3:Int)(a7:Am)(a5:List Ad):List Uc:=(Z6 a2 a4 a3 a7 a5 a5.length)
def Ls(a2:Ey)(a4:Int)(a3:Int)(a7:Am)(a5:List Ad):Option Unit:=
 ((Qv a2 a4 a3 a7 a5).bind λx1=>((On a2 a4 a3 a7 a5).bind λx2=>((Qu a2 a4 a3 a7 a5).bind λx3=>((Ol a2 a4 a3 a7 a5).bind λx4=>((Bo (4:Int) a2 a4 a3 a7 a5).bind λx5=>((Om (4:Int) a2 a4 a3 a7 a5).bind λx6=>((Bo (1:Int) a2 a4 a3 a7 a5).bind λx7=>((Bo (2:Int) a2 a4 a3 a7 a5).bind λx8=>((Bo (3:Int) a2 a4 a3 a7 a5).bind λx9=>((Bo (4:Int) a2 a4 a3 a7 a5).bind λx10=>((Bo (5:Int) a2 a4 a3 a7 a5).bind λx11=>((Bo (6:Int) a2 a4 a3 a7 a5).bind λx12=>((Bo (7:Int) a2 a4 a3 a7 a5).bind λx13=>((Bo (8:Int) a2 a4 a3 a7 a5).bind λx14=>((Bo (9:Int) a2 a4 a3 a7 a5).bind λx15=>((Bo (10:Int) a2 a4 a3 a7 a5).bind λx16=>((Bo (11:Int) a2 a4 a3 a7 a5).bind λx17=>((Bo (12:Int) a2 a4 a3 a7 a5).bind λx18=>(some ())))))))))))))))))))
theorem Wh(h:Ls v16 v4 v13 v0 v33=some v34):sP 28 Y7 (Z6 v16 v4 v13 v0 v33 v33.length) (.omap 20000) [(30000,.row 85 [(Ha 30001),.nilm,(.vsl 35002 v16.length),(Ax v4),(Ax v13)]),(KM 30001 35100 v0.length v33 37101),(AR 37101 v33.length),(YK 35002 v16),(FV 35100 v0),(nG 20000)]:=
 sG Tryz.func28 λΓ q=>Ae q [0] Xl (tB h λx1 y1 h=>tB h λx2 y2 h=>tB h λx3 y3 h=>tB h λx4 y4 h=>tB h λx5 y5 h=>tB h λx6 y6 h=>tT q Ou L1 [(Z87 51 Xs (Zz v16 v4 v13 v0 v33)),(Z87 52 Xs (Zz v16 v4 v13 v0 v33)),(Z83 Xs 53 (Zz v16 v4 v13 v0 v33)),(Z83 Xs 54 (Zz v16 v4 v13 v0 v33)),(Z77 Xs (Zz v16 v4 v13 v0 v33)),⟨IB,[],(.clo 82 [] [(.rpo Xs),(.rpo [(.clo 83 [] [(.rpo Xs),(.rpo [(.int .i64 (4:Int))])])])]),(Zz v16 v4 v13 v0 v33),[],KF⟩] (ci (W7 y1) (nL [(Z0 v16 v4 v13),(AA v0 v33),(AD v33),(AC v16),(AB v0)] (ci (Uz y2) (nL [(Z0 v16 v4 v13),(AA v0 v33),(AD v33),(AC v16),(AB v0)] (ci (W6 y3) (nL [(Z0 v16 v4 v13),(AA v0 v33),(AD v33),(AC v16),(AB v0)] (ci (Ux y4) (nL [(Z0 v16 v4 v13),(AA v0 v33),(AD v33),(AC v16),(AB v0)] (ci (Bq y5) (nL [(Z0 v16 v4 v13),(AA v0 v33),(AD v33),(AC v16),(AB v0)] (ci (Uy y6) (Ul [(Z0 v16 v4 v13),(AA v0 v33),(AD v33),(AC v16),(AB v0)])))))))))))) (Ae q Ik L1 (gU 64 (Ae q Xm L1 (CJ true (tB h λx7 y7 h=>tT q Ik L1 [⟨IB,[],(.clo 83 [] [(.rpo Xs),(.rpo [RN])]),(Zz v16 v4 v13 v0 v33),[],KF⟩] (ci (Bq y7) (Ul [(Z0 v16 v4 v13),(AA v0 v33),(AD v33),(AC v16),(AB v0)])) (tW q Ik L1 Xm L1 (CJ true (tB h λx8 y8 h=>tT q Ik L1 [⟨IB,[],(.clo 83 [] [(.rpo Xs),(.rpo [RL])]),(Zz v16 v4 v13 v0 v33),[],KF⟩] (ci (Bq y8) (Ul [(Z0 v16 v4 v13),(AA v0 v33),(AD v33),(AC v16),(AB v0)])) (tW q Ik L1 Xm L1 (CJ true (tB h λx9 y9 h=>tT q Ik L1 [⟨IB,[],(.clo 83 [] [(.rpo Xs),(.rpo [nI])]),(Zz v16 v4 v13 v0 v33),[],KF⟩] (ci (Bq y9) (Ul [(Z0 v16 v4 v13),(AA v0 v33),(AD v33),(AC v16),(AB v0)])) (tW q Ik L1 Xm L1 (CJ true (tB h λx10 y10 h=>tT q Ik L1 [(Z77 Xs (Zz v16 v4 v13 v0 v33))] (ci (Bq y10) (Ul [(Z0 v16 v4 v13),(AA v0 v33),(AD v33),(AC v16),(AB v0)])) (tW q Ik L1 Xm L1 (CJ true (tB h λx11 y11 h=>tT q Ik L1 [⟨IB,[],(.clo 83 [] [(.rpo Xs),(.rpo [nH])]),(Zz v16 v4 v13 v0 v33),[],KF⟩] (ci (Bq y11) (Ul [(Z0 v16 v4 v13),(AA v0 v33),(AD v33),(AC v16),(AB v0)])) (tW q Ik L1 Xm L1 (CJ true (tB h λx12 y12 h=>tT q Ik L1 [⟨IB,[],(.clo 83 [] [(.rpo Xs),(.rpo [(.int .i64 (6:Int))])]),(Zz v16 v4 v13 v0 v33),[],KF⟩] (ci (Bq y12) (Ul [(Z0 v16 v4 v13),(AA v0 v33),(AD v33),(AC v16),(AB v0)])) (tW q Ik L1 Xm L1 (CJ true (tB h λx13 y13 h=>tT q Ik L1 [⟨IB,[],(.clo 83 [] [(.rpo Xs),(.rpo [(.int .i64 (7:Int))])]),(Zz v16 v4 v13 v0 v33),[],KF⟩] (ci (Bq y13) (Ul [(Z0 v16 v4 v13),(AA v0 v33),(AD v33),(AC v16),(AB v0)])) (tW q Ik L1 Xm L1 (CJ true (tB h λx14 y14 h=>tT q Ik L1 [⟨IB,[],(.clo 83 [] [(.rpo Xs),(.rpo [bT])]),(Zz v16 v4 v13 v0 v33),[],KF⟩] (ci (Bq y14) (Ul [(Z0 v16 v4 v13),(AA v0 v33),(AD v33),(AC v16),(AB v0)])) (tW q Ik L1 Xm L1 (CJ true (tB h λx15 y15 h=>tT q Ik L1 [⟨IB,[],(.clo 83 [] [(.rpo Xs),(.rpo [(.int .i64 (9:Int))])]),(Zz v16 v4 v13 v0 v33),[],KF⟩] (ci (Bq y15) (Ul [(Z0 v16 v4 v13),(AA v0 v33),(AD v33),(AC v16),(AB v0)])) (tW q Ik L1 Xm L1 (CJ true (tB h λx16 y16 h=>tT q Ik L1 [(Z47 Xs 10 (Zz v16 v4 v13 v0 v33))] (ci (Bq y16) (Ul [(Z0 v16 v4 v13),(AA v0 v33),(AD v33),(AC v16),(AB v0)])) (tW q Ik L1 Xm L1 (CJ true (tB h λx17 y17 h=>tT q Ik L1 [(Z47 Xs 11 (Zz v16 v4 v13 v0 v33))] (ci (Bq y17) (Ul [(Z0 v16 v4 v13),(AA v0 v33),(AD v33),(AC v16),(AB v0)])) (tW q Ik L1 Xm L1 (CJ true (tB h λx18 y18 h=>tT q Ik L1 [(Z47 Xs 12 (Zz v16 v4 v13 v0 v33))] (ci (Bq y18) (Ul [(Z0 v16 v4 v13),(AA v0 v33),(AD v33),(AC v16),(AB v0)])) (tW q Ik L1 Xm L1 (CJ false (Ae q [2] L1 (tS h (Bi [(30000,30000),(30001,30001),(37101,37101),(35002,35002),(35100,35100),(5,20000)]))))))))))))))))))))))))))))))))))))))))))))
def yq(aK:Int):=(⟨[(2,(AV.list 1 Dd 0 ([aK]:Am) (.own 6002)))],[(6002,.tok 1 37 (([aK]:Am).length))],[]⟩:St)
def K7(aK:Int):Option Am:=
 (some ([aK]:Am))
theorem P4(h:K7 v4=some v0):sP 59 [(Qh v4)] [] (lg v0 20000) [(20000,.tok 1 37 v0.length)]:=
 sG Tryz.func59 λΓ q=>gR q [0] [] [(2,bU)] [] (c1 (Bh 1 Dd (0:Int))) (gR q [2] [] [(4,(AV.list 1 Dd 0 ([v4]:Am) .exact))] [] (c1 (Ca 1 Dd (0:Int) ([v4]:Am))) (Ox (⟨[(2,(AV.list 1 Dd 0 ([v4]:Am) .exact))],[],[]⟩:St) (tS h (gK (e:=.ret) (Ht jj (show Le Γ _ (yq v4) from Le.trans (Bk (st':=⟨[(2,(AV.list 1 Dd 0 ([v4]:Am) .exact))],[],[]⟩) [2] [] q) (Le.trans (Nl (t:=2) (nm:=6002) (sz':=1) (λi=>Dd (([v4]:Am).getD i 0)) 37 rfl rfl (.inl ⟨rfl,rfl⟩) (λh_=>absurd h_ (by decide))) (Bk (st':=(yq v4)) [2] [6002] q))))))))
def F6(a1:TFunc)(aa5:Am):cx->Option wS:=
 λ((i1,l2):cx)=>(bif (decide (i1<(a1.Params.length:Int))) then(Aw (A0 i1 a1.Params.length) (Aw (A0 i1 aa5.length) ((Fb (aa5.getD i1.toNat 0) (a1.Params.getD i1.toNat 0)).bind λx6=>((K7 x6).bind λx7=>(Aw (A0 (w64 (i1+1)) l2.length) (some (.next ((w64 (i1+1)),(l2.set (w64 (i1+1)).toNat x7))))))))) else(some (.done l2)))
def Lt(a1:TFunc):cx->Option wS:=
 λ((i12,l13):cx)=>(bif (decide (i12<(((a1.Blocks.getD (0:Int).toNat (default:Aj)).Phis).length:Int))) then(Aw (A0 i12 ((a1.Blocks.getD (0:Int).toNat (default:Aj)).Phis).length) ((K7 (0:Int)).bind λx16=>(Aw (A0 (((a1.Blocks.getD (0:Int).toNat (default:Aj)).Phis).getD i12.toNat default).Dst l13.length) (some (.next ((w64 (i12+1)),(l13.set ((((a1.Blocks.getD (0:Int).toNat (default:Aj)).Phis).getD i12.toNat default).Dst).toNat x16))))))) else(some (.done l13)))
def sO(a1:TFunc)(i12:Int):=((((a1.Blocks.getD (0:Int).toNat (default:Aj)).Phis).getD i12.toNat default).Dst)
abbrev vi:=(Int×Int×List Ad×Ey×Am)
def Kp(a1:TFunc)(aa5:Am)(a2:Ey)(a4:Int)(a3:Int)(a7:Am)(a5:List Ad):Option vi:=
 ((Ac (F6 a1 aa5) ((0:Int),a2)).bind (λx9=>(Aw (A0 (0:Int) a1.Blocks.length) ((Ac (Lt a1) ((0:Int),x9)).bind (λx18=>(some (a4,a3,a5,x18,a7)))))))
variable{v35:vi}
theorem BA(h:Kp v3 v0 v16 v4 v13 v1 v33=some v35):sP 29 [(Ha 30000),(XC v3),(f5 v0)] (Z1 v16 v4 v13 v1 v33 v33.length) (.tuple []) (Z1 v35.2.2.2.1 v35.1 v35.2.1 v35.2.2.2.2 v35.2.2.1 v35.2.2.1.length):=
 sG Tryz.func29 λΓ q=>tW q [0,2,4] Rq cZ Rq (tL q h cZ Rq (λu (i1,l2)=>(Cs u [(C6 13 i1)] [(YM l2.length v4 v13),(YK 35002 l2)])) (λu l3=>aG Γ (.exit 0) (Oz Wn Rq u [] [(YM l3.length v4 v13),(YK 35002 l3)])) (λ⟨i1,l2⟩ y h=>Ae q [0,2,4,11,12,13,14] Rq (gC h (λh=>tV q [0,2,4,6,7,11,12,13] Rq h λh=>tC h λc5_ h=>tB h λx6 y6 h=>tB h λx7 y7 h=>tC h λc8_ h=>tT q cZ Rq [(WZ x6),(Z71 30 x7 x7.length)] (c5 c5_ (N1 y6) (P4 y7) c8_ (Eq.refl l2.length)) (M4 (Le.trans (Sp 35002 (show ∀ k_,k_<l2.length->AVleL ((λi_=>AV.eraseAll (λn_=>B3 n_ Rq) ((E0 (λi=>D7 (l2.getD i [])) (w64 (i1+1)).toNat 0 [(lg x7 30)]) i_)) k_) ((λi=>D7 ((l2.set (w64 (i1+1)).toNat x7).getD i [])) k_) from(Bc (Cm ..).symm (TZ (λ_ _=>rfl) (λ_=>rfl) (Gs c8_) rfl)))) (Sq (λ(k_:Nat) u=>(Cs u [] [(YM k_ v4 v13),(35002,.arr 1 26 k_ (λi=>D7 ((l2.set (w64 (i1+1)).toNat x7).getD i [])))])) (show l2.length=(l2.set (w64 (i1+1)).toNat x7).length from(Cm ..).symm))) (Ae q cZ Rq (tN h)))) λh=>tS h (gO (Bd (Bk Wn Rq q))))) λx9 h=>gA (tV q HW Eu h λh=>tL q h HW Eu (λu (i12,l13)=>(Cs u [(C6 39 i12)] [(YM l13.length v4 v13),(YK 35002 l13)])) (λu l14=>aG Γ (.exit 2) (Oz [] Eu u [] [(YM l14.length v4 v13),(YK 35002 l14)])) (λ⟨i12,l13⟩ y h=>Ae q [0,37,38,39,40] Eu (gC h (λh=>tV q [0,9,37,38,39] [9,30000,30001,35002,35100,37101,9100001] h λh=>tB h λx16 y16 h=>tC h λc17_ h=>tT q HW Eu [(Z71 49 x16 x16.length)] (c3 (P4 y16) c17_ (Eq.refl l13.length)) (M4 (Le.trans (Sp 35002 (show ∀ k_,k_<l13.length->AVleL ((λi_=>AV.eraseAll (λn_=>B3 n_ Eu) ((E0 (λi=>D7 (l13.getD i [])) (sO v3 i12).toNat 0 [(lg x16 49)]) i_)) k_) ((λi=>D7 ((l13.set (sO v3 i12).toNat x16).getD i [])) k_) from(Bc (Cm ..).symm (TZ (λ_ _=>rfl) (λ_=>rfl) (Gs c17_) rfl)))) (Sq (λ(k_:Nat) u=>(Cs u [] [(YM k_ v4 v13),(35002,.arr 1 26 k_ (λi=>D7 ((l13.set (sO v3 i12).toNat x16).getD i [])))])) (show l13.length=(l13.set (sO v3 i12).toNat x16).length from(Cm ..).symm))) (Ae q HW Eu (tN h)))) λh=>tS h (gO (Bd (Bk [] Eu q))))) λx18 h=>nJ (λst' hl19=>tS h (gK (e:=.normal) (Ht O1 hl19)))))
abbrev U8:=(Bool×Int×Int×List Ad×Ey×Am)
def G7(a2:Ey)(a4:Int)(a3:Int)(a7:Am)(a5:List Ad):Option U8:=
 (bif (a3==a4) then(some (false,a4,a3,a5,a2,a7)) else(some (true,a4,(w64 (a3+1)),a5,a2,a7)))
variable{v36:U8}
theorem Ny(h:G7 v16 v4 v13 v0 v33=some v36):sP 63 Y7 (Z1 v16 v4 v13 v0 v33 v33.length) (.bool v36.1) (Z1 v36.2.2.2.2.1 v36.2.1 v36.2.2.1 v36.2.2.2.2.2 v36.2.2.2.1 v36.2.2.2.1.length):=
 sG Tryz.func63 λΓ q=>tW q [0] Eu [0,11] Eu (gC h (λh=>Ae q [2] Eu (tS h (Bi O1))) λh=>tW q [] Eu [2] Eu (tS h (Bi O1)))
def Rb :Xg->Option qy:=
 λ((i7,l8):Xg)=>(bif (decide (i7<(l8.length:Int))) then(Aw (0<=i7/\0+i7.toNat<=l8.length) (Aw (0<=i7/\0+i7.toNat<=l8.length) (some (.next ((w64 (i7+((Nat.min ((0+i7.toNat)-0) (l8.length-(0+i7.toNat))):Int))),(bc l8 (0+i7.toNat) (Nat.min ((0+i7.toNat)-0) (l8.length-(0+i7.toNat))) (λi=>l8.getD (0+i) 0))))))) else(some (.done l8)))
def RB(x3:Hr):=(List.replicate (w64 x3.2).toNat (0:Int))
def wc(x3:Hr)(aM:Am):=(bc (RB x3) 0 (Nat.min aM.length ((RB x3).length-0)) (λi=>aM.getD i 0))
def wb(l8:Am)(i7:Int):=(bc l8 (0+i7.toNat) (Nat.min ((0+i7.toNat)-0) (l8.length-(0+i7.toNat))) (λi=>l8.getD (0+i) 0))
def Ap(aM:Am)(aa2:Int):Option Am:=
 (Option.bind (α:=Unit) (bif (decide (aa2<0)) then none else(some ())) (λx1=>(match x1 with|_=>((Pu (Et (aM.length:Int)) (Et aa2)).bind λx3=>(Option.bind (α:=Unit) (bif (bif (decide ((0:Int)<x3.1)) then true else(decide ((9223372036854775807:Int)<x3.2))) then none else(some ())) (λx4=>(match x4 with|_=>(Aw (0<=(w64 x3.2)/\(w64 x3.2)<=(w64 x3.2)/\(w64 x3.2)<=(room:Int)) ((Ac (S:=Xg) (X:=Am) Rb (((Nat.min aM.length ((List.replicate (w64 x3.2).toNat (0:Int)).length-0)):Int),(bc (List.replicate (w64 x3.2).toNat (0:Int)) 0 (Nat.min aM.length ((List.replicate (w64 x3.2).toNat (0:Int)).length-0)) (λi=>aM.getD i 0)))).bind (λx12=>(some x12)))))))))))
theorem Sb(h:Ap v0 v4=some v1):sP 76 [(f5 v0),(Ax v4)] [] (lg v1 20000) [(20000,.tok 1 37 v1.length)]:=
 sG Tryz.func76 λΓ q=>have hΓ:=q.own;gR q E6 [] [(4,bU)] [] (c1 (Bh 1 Dd (0:Int))) (tB h λx1 y1 h=>gJ y1 (λ_=>aG Γ .normal (⟨[(0,(f5 v0)),(1,(Ax v4))],[],[]⟩:St)) (λy h=>Ae q Y2 [] (gC h (λh=>nomatch h) λh=>tS h (gK (Bd (Bk E6 [] q))))) (gA (tB h λx3 y3 h=>tT q [0,5,6] [] [⟨[],[],(.tuple (CA x3.1 x3.2)),[],[],[]⟩] (c1 (CX y3)) (tB h λx4 y4 h=>gJ y4 (λ_=>aG Γ .normal (⟨[(0,(f5 v0)),(6,(Qh x3.2))],[],[]⟩:St)) (λy h=>tU q [0,6,26] [] (c2 (gI ((decide ((0:Int)<x3.1))==false)) (Ld (decide ((0:Int)<x3.1)))) (gC h (λh=>nomatch h) λh=>tS h (gK (Bd (Bk [0,6] [] q))))) (gA (tV q [0,7] [30] h λh=>by exact M4 (Le.trans (Sp 30 (show ∀ k_,k_<((w64 x3.2).toNat)->AVleL ((λi_=>AV.eraseAll (λn_=>B3 n_ [30]) ((λ_=>[(.int .u64 (0:Int))]) i_)) k_) ((λi=>Dd ((RB x3).getD i 0)) k_) from(λk hk=>Mi (e:=Dd) (d:=(0:Int)) (.cons (AVle.refl _) .nil) _ k (Mn hk)))) (Sq (λ(k_:Nat) u=>(Cs u [(Ue 30 k_)] [(30,.arr 1 37 k_ (λi=>Dd ((RB x3).getD i 0)))])) (show(w64 x3.2).toNat=(RB x3).length from(K1 ..).symm))) (tU q Wp [30] (c1 (Eq.refl ((RB x3).length))) (M4 (Le.trans (Sp 30 (show ∀ k_,k_<((RB x3).length)->AVleL ((λi_=>AV.eraseAll (λn_=>B3 n_ [30]) ((dq (λi=>Dd ((RB x3).getD i 0)) 0 (Nat.min v0.length ((RB x3).length-0)) (λi=>Dd (v0.getD i 0))) i_)) k_) ((λi=>Dd ((wc x3 v0).getD i 0)) k_) from(Bc (Fy ..) (λk_ hk_=>(Bx (AV.eraseAll (λn_=>B3 n_ [30])) ((ET (e:=Dd) (d:=(0:Int)) (l:=(RB x3)) (s:=(λi=>v0.getD i 0)) (λ_ _=>rfl) (λ_ _=>rfl)) k_ hk_)).trans rfl)))) (Sq (λ(k_:Nat) u=>(Cs u [(Ue 30 k_)] [(30,.arr 1 37 k_ (λi=>Dd ((wc x3 v0).getD i 0)))])) (show(RB x3).length=(wc x3 v0).length from(Fy ..)))) (tL q h Wp [30] (λu (i7,l8)=>(Cs u [(Ue 30 l8.length),(8,(Ax i7))] [(oB 30 l8)])) (λu l9=>aG Γ (.exit 0) (⟨[(Ue 30 l9.length)],[(oB 30 l9)],[]⟩:St)) (λ⟨i7,l8⟩ y h=>Ae q [7,8,37] [30] (gC h (λh=>tC h λc10_ h=>tC h λc11_ h=>tU q Wp [30] (c4 c10_ c11_ (Eq.refl l8.length) (Eq.refl l8.length)) (tS h (gN (Le.trans (Le.trans (Sp 30 (show ∀ k_,k_<l8.length->AVleL ((λi_=>AV.eraseAll (λn_=>B3 n_ [30]) ((dq (λi=>Dd (l8.getD i 0)) (0+i7.toNat) (Nat.min ((0+i7.toNat)-0) (l8.length-(0+i7.toNat))) (λi=>(λi=>Dd (l8.getD i 0)) (0+i))) i_)) k_) ((λi=>Dd ((wb l8 i7).getD i 0)) k_) from(Bc (Fy ..) (λk_ hk_=>(Bx (AV.eraseAll (λn_=>B3 n_ [30])) ((ET (e:=Dd) (d:=(0:Int)) (l:=l8) (s:=(λi=>l8.getD (0+i) 0)) (λ_ _=>rfl) (λ_ _=>rfl)) k_ hk_)).trans rfl)))) (Sq (λ(k_:Nat) u=>(Cs u [(Ue 30 k_)] [(30,.arr 1 37 k_ (λi=>Dd ((wb l8 i7).getD i 0)))])) (show l8.length=(wb l8 i7).length from(Fy ..)))) Jh)))) λh=>tS h (gO (Bd (Bk [7] [30] q))))) λx12 h=>gA (Ae q [4] [30] (Ox (⟨[(4,(.vsl 30 x12.length))],[(oB 30 x12)],[]⟩:St) (tS h (gK (e:=.ret) (Ht jp (Le.trans (F1 (nm:=30) (sz:=1) (n:=x12.length) (e:=37) (f:=(λi=>Dd (x12.getD i 0))) (g:=(λi=>Dd (x12.getD i 0))) rfl ⟨rfl,trivial⟩ (λ_ _=>rfl) (by rw[hΓ];rfl)) (Ib (st':=⟨[(4,(lg x12 30))],[(30,.tok 1 37 x12.length)],[]⟩) (by kernel_rfl)))))))))))))))))
abbrev MK:=(Am×Int)
def Pm(a0:C5):Option MK:=
 ((K7 a0.Imm).bind λx1=>((Ap x1 a0.Lanes).bind λx2=>(some (x2,(0:Int)))))
variable{v37:MK}
theorem LN(h:Pm v8=some v37):sP 48 [(IH v8)] [] (.tuple (jy v37.1 v37.2)) [(20000,.tok 1 37 v37.1.length)]:=
 sG Tryz.func48 λΓ q=>gR q [1] [1] [(2,bU)] [] (c1 (Bh 1 Dd (0:Int))) (tB h λx1 y1 h=>tB h λx2 y2 h=>tT q B7 [9] [⟨[],[(20000,6)],(lg x1 20000),[(20000,.tok 1 37 x1.length)],[],[]⟩,⟨[],jq,(lg x2 20000),[(20000,.tok 1 37 x2.length)],[],[]⟩] (c2 (P4 y1) (Sb y2)) (tS h (Bi [(9,20000)])))
def Be(aK:Int)(a2:Ey)(a4:Int)(a3:Int)(a7:Am)(a5:List Ad):Option Int:=
 (Aw (A0 aK a2.length) (Aw (A0 (0:Int) (a2.getD aK.toNat []).length) (some ((a2.getD aK.toNat []).getD (0:Int).toNat (0:Int)))))
variable{v38:Int}
theorem Cq(h:Be v4 v16 v13 v21 v0 v33=some v38):sP 64 [(Ha 30000),(Ax v4)] (Z1 v16 v13 v21 v0 v33 v33.length) (.int .u64 v38) (Z1 v16 v13 v21 v0 v33 v33.length):=
 sG Tryz.func64 λΓ q=>Ae q E6 Eu (tC h λc1_ h=>tC h λc2_ h=>tU q [4] Eu (c3 c1_ (Eq.refl v16.length) c2_) (tS h (Bi O1)))
def D1(aK:Int)(a2:Ey)(a4:Int)(a3:Int)(a7:Am)(a5:List Ad):Option Bool:=
 ((Be aK a2 a4 a3 a7 a5).bind λx1=>(some (x1==1)))
theorem Ih(h:D1 v4 v16 v13 v21 v0 v33=some v5):sP 77 [(Ha 30000),(Ax v4)] (Z1 v16 v13 v21 v0 v33 v33.length) (.bool v5) (Z1 v16 v13 v21 v0 v33 v33.length):=
 sG Tryz.func77 λΓ q=>Ae q E6 Eu (tB h λx1 y1 h=>tT q [4] Eu [(z7 x1 v16 v13 v21 v0 v33 v33.length)] (ci (Cq y1) (Ul [(.row 85 (YJ v16.length v13 v21)),(.row 79 (WO 35100 v0.length v33 37101)),(.tok 3 49 v33.length),(.arr 1 26 v16.length (λi=>D7 (v16.getD i []))),(.arr 1 5 v0.length (λi=>Qi (v0.getD i 0))),(.obj (.tab .i64 YE))])) (tS h (Bi O1)))
def J0(a0:C5)(a2:Ey)(a4:Int)(a3:Int)(a7:Am)(a5:List Ad):Option MK:=
 (Aw (A0 (0:Int) a0.Args.length) ((D1 (a0.Args.getD (0:Int).toNat (0:Int)) a2 a4 a3 a7 a5).bind λx2=>(bif x2 then(Aw (A0 (1:Int) a0.Args.length) (Aw (A0 (a0.Args.getD (1:Int).toNat (0:Int)) a2.length) (some ((a2.getD (a0.Args.getD (1:Int).toNat (0:Int)).toNat []),(0:Int))))) else(Aw (A0 (2:Int) a0.Args.length) (Aw (A0 (a0.Args.getD (2:Int).toNat (0:Int)) a2.length) (some ((a2.getD (a0.Args.getD (2:Int).toNat (0:Int)).toNat []),(0:Int))))))))
theorem Yk(h:J0 v8 v16 v4 v13 v0 v33=some v37):sP 49 [(Ha 30000),(IH v8)] (Z1 v16 v4 v13 v0 v33 v33.length) (.tuple [(f5 v37.1),(Ax v37.2)]) (Z1 v16 v4 v13 v0 v33 v33.length):=
 sG Tryz.func49 λΓ q=>gR q Ou Vg [(4,bU)] [] (c1 (Bh 1 Dd (0:Int))) (tC h λc1_ h=>tB h λx2 y2 h=>tT q [0,3,11] Vg [(Z46 x2 v16 v4 v13 v0 v33 v33.length)] (SB c1_ (Ih y2) (Ul [(.row 85 (YJ v16.length v4 v13)),(.row 79 (WO 35100 v0.length v33 37101)),(.tok 3 49 v33.length),(.arr 1 26 v16.length (λi=>D7 (v16.getD i []))),(.arr 1 5 v0.length (λi=>Qi (v0.getD i 0))),(.obj (.tab .i64 YE))])) (gC h (λh=>tC h λc3_ h=>tC h λc4_ h=>tU q Ov Eu (c3 c3_ c4_ (Eq.refl v16.length)) (tS h (Bi O1))) λh=>tC h λc5_ h=>tC h λc6_ h=>tU q Ov Eu (c3 c5_ c6_ (Eq.refl v16.length)) (tS h (Bi O1))))
def CP(aK:Int)(aW:Int)(aaD:Int):Option Hr:=
 ((Ep aW).bind λx1=>((bif ((!x1)==false) then Ep aaD else some false).bind λx2=>(bif (bif (bif (!x1) then true else(!x2)) then true else(decide (aaD<=aW))) then(some ((0:Int),(1:Int))) else((Fb aK aW).bind λx3=>(some (x3,(0:Int)))))))
theorem cL(h:CP v4 v13 v21=some v20):sP 51 [(Qh v4),(Ax v13),(Ax v21)] [] (.tuple [(Qh v20.1),(Ax v20.2)]) []:=
 sG Tryz.func51 λΓ q=>Ae q Zv [] (tB h λx1 y1 h=>tB h λx2 y2 h=>tT q [0,1,20] [] [(Z8 x1),(Z8 x2)] (d5_ (Gm y1) (gI ((!x1)==false)) (λ(hg:((!x1)==false)=true)=>(Gm (B0 hg y2))) (gI ((!x1)==false)) (Ld (!x1)) (Lz ((bif (!x1) then true else(!x2))==false) (c1 (Ld (bif (!x1) then true else(!x2)))))) (gC h (λh=>Ae q [6,7] [] (tS h (Bi []))) λh=>tB h λx3 y3 h=>tT q [6,7] [] [(WZ x3)] (c1 (N1 y3)) (tS h (Bi []))))
def H4(a0:C5)(a2:Ey)(a4:Int)(a3:Int)(a7:Am)(a5:List Ad):Option MK:=
 (Aw (A0 (0:Int) a0.Args.length) ((Be (a0.Args.getD (0:Int).toNat (0:Int)) a2 a4 a3 a7 a5).bind λx2=>((CP x2 (w64 a0.Imm) a0.Bits).bind λx3=>((K7 x3.1).bind λx4=>(some (x4,x3.2))))))
theorem Vf(h:H4 v8 v16 v4 v13 v0 v33=some v37):sP 78 [(IH v8),(.rpo [(.clo 51 [] [])]),(.rpo Y7)] (Z1 v16 v4 v13 v0 v33 v33.length) (.tuple (jy v37.1 v37.2)) (Z7 v16 v4 v13 v0 v33 v33.length v37.1.length):=
 sG Tryz.func78 λΓ q=>gR q Y3 Vg [(4,bU)] [] (c1 (Bh 1 Dd (0:Int))) (tC h λc1_ h=>tB h λx2 y2 h=>tB h λx3 y3 h=>tT q [6,7] Eu [(z7 x2 v16 v4 v13 v0 v33 v33.length),⟨[],[],(.tuple [(Qh x3.1),(Ax x3.2)]),[],[],[]⟩] (SB c1_ (Cq y2) (nL [(.row 85 (YJ v16.length v4 v13)),(.row 79 (WO 35100 v0.length v33 37101)),(.tok 3 49 v33.length),(.arr 1 26 v16.length (λi=>D7 (v16.getD i []))),(.arr 1 5 v0.length (λi=>Qi (v0.getD i 0))),(.obj (.tab .i64 YE))] (c1 (cL y3)))) (tB h λx4 y4 h=>tT q Ov rI [(Z71 25 x4 x4.length)] (c1 (P4 y4)) (tS h (Bi wU))))
def Yd(aK:Int)(aW:Int)(aaD:Int):Option Hr:=
 ((Ep aW).bind λx1=>((bif ((!x1)==false) then Ep aaD else some false).bind λx2=>(bif (bif (bif (!x1) then true else(!x2)) then true else(decide (aW<=aaD))) then(some ((0:Int),(1:Int))) else((Fb aK aaD).bind λx3=>(some (x3,(0:Int)))))))
theorem XX(h:Yd v4 v13 v21=some v20):sP 52 [(Qh v4),(Ax v13),(Ax v21)] [] (.tuple [(Qh v20.1),(Ax v20.2)]) []:=
 sG Tryz.func52 λΓ q=>Ae q Zv [] (tB h λx1 y1 h=>tB h λx2 y2 h=>tT q [0,2,20] [] [(Z8 x1),(Z8 x2)] (d5_ (Gm y1) (gI ((!x1)==false)) (λ(hg:((!x1)==false)=true)=>(Gm (B0 hg y2))) (gI ((!x1)==false)) (Ld (!x1)) (Lz ((bif (!x1) then true else(!x2))==false) (c1 (Ld (bif (!x1) then true else(!x2)))))) (gC h (λh=>Ae q [6,7] [] (tS h (Bi []))) λh=>tB h λx3 y3 h=>tT q [6,7] [] [(WZ x3)] (c1 (N1 y3)) (tS h (Bi []))))
def Gr(a0:C5)(a2:Ey)(a4:Int)(a3:Int)(a7:Am)(a5:List Ad):Option MK:=
 (Aw (A0 (0:Int) a0.Args.length) ((Be (a0.Args.getD (0:Int).toNat (0:Int)) a2 a4 a3 a7 a5).bind λx2=>((Yd x2 (w64 a0.Imm) a0.Bits).bind λx3=>((K7 x3.1).bind λx4=>(some (x4,x3.2))))))
theorem Tk(h:Gr v8 v16 v4 v13 v0 v33=some v37):sP 78 [(IH v8),(.rpo [(.clo 52 [] [])]),(.rpo Y7)] (Z1 v16 v4 v13 v0 v33 v33.length) (.tuple (jy v37.1 v37.2)) (Z7 v16 v4 v13 v0 v33 v33.length v37.1.length):=
 sG Tryz.func78 λΓ q=>gR q Y3 Vg [(4,bU)] [] (c1 (Bh 1 Dd (0:Int))) (tC h λc1_ h=>tB h λx2 y2 h=>tB h λx3 y3 h=>tT q [6,7] Eu [(z7 x2 v16 v4 v13 v0 v33 v33.length),⟨[],[],(.tuple [(Qh x3.1),(Ax x3.2)]),[],[],[]⟩] (SB c1_ (Cq y2) (nL [(.row 85 (YJ v16.length v4 v13)),(.row 79 (WO 35100 v0.length v33 37101)),(.tok 3 49 v33.length),(.arr 1 26 v16.length (λi=>D7 (v16.getD i []))),(.arr 1 5 v0.length (λi=>Qi (v0.getD i 0))),(.obj (.tab .i64 YE))] (c1 (XX y3)))) (tB h λx4 y4 h=>tT q Ov rI [(Z71 25 x4 x4.length)] (c1 (P4 y4)) (tS h (Bi wU))))
def O7(aH:Int):Option Int:=
 (Option.bind (α:=Bool) (bif (aH==8) then(some (aH==8)) else(bif (aH==16) then(some (aH==16)) else(bif (aH==32) then(some (aH==32)) else(some (aH==64))))) (λx2=>(bif x2 then(some (w64 (Int.tdiv aH (8:Int)))) else(some (0:Int)))))
theorem DI(h:O7 v4=some v13):sP 104 [(Ax v4)] [] (.int .i64 v13) []:=
 sG Tryz.func104 λΓ q=>tW q [0] [] Ou [] (tB h λx2 y2 h=>gJ y2 (λb1=>aG Γ .normal (⟨[(0,(Ax v4)),(4,(.bool b1))],[],[]⟩:St)) (λy h=>Ae q Ik [] (gC h (λh=>tS h (gK (Bd (Bk Wn [] q)))) λh=>Ae q Ik [] (gC h (λh=>tS h (gK (Bd (Bk Wn [] q)))) λh=>Ae q Ik [] (gC h (λh=>tS h (gK (Bd (Bk Wn [] q)))) λh=>Ae q Wn [] (tS h (gK (Bd Jh))))))) (gA (gC h (λh=>tU q [2] [] (c1 (show((8:Int)≠0) from(by decide))) (tS h (Bi []))) λh=>Ae q [2] [] (tS h (Bi [])))))
def Abs(aO:Int):=((decide (aO<1))==false)
abbrev Abl:=(Bool×List Ad×Am)
def Mr(aN:Int)(aO:Int)(a6:Am)(aB:List Ad):Option Abl:=
 (bif (bif (decide (aO<1)) then true else(decide ((a6.length:Int)<aO))) then(some (false,aB,a6)) else(some ((decide (aN<=(Et (w64 ((a6.length:Int)-aO))))),aB,a6)))
variable{v39:Abl}
theorem W9(h:Mr v4 v13 v0 v33=some v39):sP 105 [(Ha 30000),(Qh v4),(Ax v13)] (Z5 v0 v33 v33.length) (.bool v39.1) (Z5 v39.2.2 v39.2.1 v39.2.1.length):=
 sG Tryz.func105 λΓ q=>Ae q Zv Hb (tU q [0,1,2,21] Hb (SB (gI (false==false)) (Ld false) (gI6 (Abs v13) (c1 (Ld (decide (v13<1)))))) (gC h (λh=>Ae q [6] Hb (tS h (Bi Xj))) λh=>Ae q [6] Hb (tS h (Bi Xj))))
abbrev Abm:=(Int×Int×Int×List Ad)
def Ig(aaF:Int)(a6:Am):Abm->Option (LR (Int×Int×Int×List Ad) (Int×List Ad)):=
 λ((i1,i2,i3,l4):Abm)=>(bif (decide (i3<aaF)) then(Aw (A0 i1 a6.length) (Aw (l4.length+([(⟨false,i1,(a6.getD i1.toNat 0)⟩:Ad)]:List Ad).length<=room) (Aw (0<=(w64 ((8:Int)*i3))) (some (.next ((Et (i1+1)),(Lq .or .u64 i2 (Tm .u64 (Et (a6.getD i1.toNat 0)) (w64 ((8:Int)*i3)))),(w64 (i3+1)),(l4++([(⟨false,i1,(a6.getD i1.toNat 0)⟩:Ad)]:List Ad)))))))) else(some (.done (i2,l4))))
def sQ(i1:Int)(a6:Am):=([(⟨false,i1,(a6.getD i1.toNat 0)⟩:Ad)]:List Ad)
abbrev jK:=(Int×List Ad×Am)
def Na(aN:Int)(aaF:Int)(a6:Am)(aB:List Ad):Option jK:=
 ((Ac (Ig aaF a6) (aN,(0:Int),(0:Int),aB)).bind (λ(i5,l6)=>(some (i5,l6,a6))))
variable{v40:jK}
theorem HL(h:Na v4 v13 v0 v33=some v40):sP 106 [(Ha 30000),(Qh v4),(Ax v13)] (Z5 v0 v33 v33.length) (Qh v40.1) (Z5 v40.2.2 v40.2.1 v40.2.1.length):=
 sG Tryz.func106 λΓ q=>tW q Zv Hb [0,1,2,7] Hb (Ae q VP Hb (tL q h VP Hb (λu (i1,i2,i3,l4)=>(Cs u [(1,(Qh i1)),(7,(Qh i2)),(C6 11 i3)] [(KM 30000 35000 v0.length l4 37001),(AR 37001 l4.length)])) (λu (i5,l6)=>aG Γ (.exit 0) (Oz [7] Hb u [(7,(Qh i5))] [(KM 30000 35000 v0.length l6 37001),(AR 37001 l6.length)])) (λ⟨i1,i2,i3,l4⟩ y h=>Ae q [0,1,7,10,11,12] Hb (gC h (λh=>Ae q [0,1,7,8,10,11] Hb (tC h λc7_ h=>tU q [0,1,7,8,9,10,11] Hb (c2 c7_ (Eq.refl v0.length)) (tC h λc8_ h=>gR q [0,1,7,8,9,10,11] Hb (zx (sQ i1 v0) l4) [] (c5 (Ca 3 Fs (default:Ad) (sQ i1 v0)) (Eq.refl l4.length) c8_ (Kh 3 37001 Fs (default:Ad) l4 (sQ i1 v0)) (Ft l4 (sQ i1 v0))) (tV q VP Hb h λh=>tW q VP Hb VP Hb (tN h))))) λh=>tS h (gO (Bd (Bk [7] Hb q))))) λx10 h=>(match x10,h with|⟨i5,l6⟩,h=>gA (Ae q [6] Hb (tS h (Bi Xj))))))
abbrev Abn:=(Int×Int×Am×List Ad×Am)
def I5(aO:Int)(x3:Int):Abn->Option (LR (Int×Int×Am×List Ad×Am) ((Am×List Ad×Am) ⊕ (List Ad×Am))):=
 λ((i5,i6,l7,l8,l9):Abn)=>(bif (decide (i6<((List.replicate aO.toNat (0:Int)).length:Int))) then((Mr i5 x3 l9 l8).bind λx15=>(Aw (l9.length=x15.2.2.length) (bif (!x15.1) then(some (.done (.inr (x15.2.1,x15.2.2)))) else((Na i5 x3 x15.2.2 x15.2.1).bind λx17=>(Aw (x15.2.2.length=x17.2.2.length) (Aw (A0 i6 l7.length) (some (.next ((Et (i5+(Et x3))),(w64 (i6+1)),(l7.set i6.toNat x17.1),x17.2.1,x17.2.2))))))))) else(some (.done (.inl (l7,l8,l9)))))
abbrev QF:=(List Ad×Am)
def JG :QF->Option (LR (List Ad×Am) (Am×Int×List Ad×Am)):=
 λ(s_:QF)=>match s_ with|(l1,l2)=>(some (.done (([]:Am),(8:Int),l1,l2)))
abbrev vj:=(Am×Int×List Ad×Am)
def QZ(Γ:Il)(aN:Int)(aH:Int)(aO:Int)(a6:Am)(aB:List Ad)(r:vj):Exit->St->Prop:=fK Tryz.prog Γ Tryz.f80.results.toList (Z5 a6 aB aB.length) (.tuple (jy r.1 r.2.1)) (xJ r.2.2.2.length r.2.2.1 r.2.2.1.length r.2.2.2 r.1.length)
def lH:AV:=bU
def wd(l2:Am)(l1:List Ad):List Uc:=(Z9 30000 35000 l2 l1 37001 l1.length)
def yw(l10:Am)(l12:Am)(l11:List Ad):List Uc:=[(oB 26 l10),(KM 30000 35000 l12.length l11 37001),(FV 35000 l12),(AR 37001 l11.length)]
def yv(a6:Am)(aB:List Ad):=(⟨[(8,lH),(9,RN)],(Z9 30000 35000 a6 aB 37001 aB.length),[]⟩:St)
def yu(l2:Am)(l1:List Ad):=(⟨[(8,(AV.list 1 Dd 0 ([]:Am) (.own 6008))),(9,bT)],[(6008,.tok 1 37 (([]:Am).length)),(KM 30000 35000 l2.length l1 37001),(FV 35000 l2),(AR 37001 l1.length)],[]⟩:St)
def yr(a6:Am)(aB:List Ad):=(⟨[(8,(AV.list 1 Dd 0 ([]:Am) (.own 6008))),(9,RN)],[(6008,.tok 1 37 (([]:Am).length)),(KM 30000 35000 a6.length aB 37001),(FV 35000 a6),(AR 37001 aB.length)],[]⟩:St)
def Ra(aN:Int)(aH:Int)(aO:Int)(a6:Am)(aB:List Ad):Option vj:=
 ((N6 (S:=QF) (X:=vj) ((O7 aH).bind λx3=>(bif (bif (bif (x3==0) then true else(decide (aO<0))) then true else(decide ((16:Int)<aO))) then(some (.done (([]:Am),(1:Int),aB,a6))) else(Aw (0<=aO/\aO<=aO/\aO<=(room:Int)) ((Ac (I5 aO x3) (aN,(0:Int),(List.replicate aO.toNat (0:Int)),aB,a6)).bind (λx20=>(match x20 with|(.inl (l10,l11,l12))=>(some (.done (l10,(0:Int),l11,l12)))|(.inr (l13,l14))=>(some (.next (l13,l14))))))))) JG).bind (λx23=>(some x23)))
variable{v41:vj}
theorem PU(h:Ra v4 v13 v21 v0 v33=some v41):sP 80 [(Ha 30000),(Qh v4),(Ax v13),(Ax v21)] (Z5 v0 v33 v33.length) (.tuple (jy v41.1 v41.2.1)) (xJ v41.2.2.2.length v41.2.2.1 v41.2.2.1.length v41.2.2.2 v41.1.length):=
 sG Tryz.func80 λΓ q=>have hΓ:=q.own;gR q WB Hb [(8,lH)] [] (c1 (Bh 1 Dd (0:Int))) (tB h λx23 y23 h=>gS y23 (λ(s_:QF)=>match s_ with|(l1,l2)=>0) (λ(s_:QF)=>match s_ with|(l1,l2)=>(⟨[],(wd l2 l1),[]⟩:St)) (λr_=>aR (QZ Γ v4 v13 v21 v0 v33 r_)) (λy h=>tB h λx3 y3 h=>tT q [0,1,3,10] Hb [(XA x3)] (c1 (DI y3)) (tU q [0,1,3,10,24] Hb (c4 (gI ((x3==0)==false)) (Ld (x3==0)) (gI ((bif (x3==0) then true else(decide (v21<0)))==false)) (Ld (bif (x3==0) then true else(decide (v21<0))))) (gC h (λh=>gR q Sk Hb [(8,lH)] [] (c1 (Bh 1 Dd (0:Int))) (Ox (yv v0 v33) (tS h (WS (Lj (Ht wY (show Le Γ _ (yr v0 v33) from Le.trans (Bk (st':=(yv v0 v33)) Sk Hb q) (Le.trans (Nl (t:=8) (nm:=6008) (sz':=1) (λi=>Dd (([]:Am).getD i 0)) 37 rfl rfl (.inl ⟨rfl,rfl⟩) (λh_=>absurd h_ (by decide))) (Bk (st':=(yr v0 v33)) Sk rX q))))))))) λh=>tV q [0,1,10,11] V3 h λh=>by exact M4 (Le.trans (Sp 26 (show ∀ k_,k_<(v21.toNat)->AVleL ((λi_=>AV.eraseAll (λn_=>B3 n_ V3) ((λ_=>[(.int .u64 (0:Int))]) i_)) k_) ((λi=>Dd ((List.replicate v21.toNat (0:Int)).getD i 0)) k_) from(λk hk=>Mi (e:=Dd) (d:=(0:Int)) (.cons (AVle.refl _) .nil) _ k (Mn hk)))) (Sq (λ(k_:Nat) u=>(Cs u [(11,(.vsl 26 k_))] [(26,.arr 1 37 k_ (λi=>Dd ((List.replicate v21.toNat (0:Int)).getD i 0)))])) (show v21.toNat=(List.replicate v21.toNat (0:Int)).length from(K1 ..).symm))) (Ae q fu V3 (tL q h fu V3 (λu (i5,i6,l7,l8,l9)=>(Cs u [(1,(Qh i5)),(11,(.vsl 26 l7.length)),(C6 29 i6)] [(oB 26 l7),(KM 30000 35000 l9.length l8 37001),(FV 35000 l9),(AR 37001 l8.length)])) (λu x_=>match x_ with|(.inl (l10,l11,l12))=>aG Γ (.exit 0) (⟨[(11,(.vsl 26 l10.length))],(yw l10 l12 l11),[]⟩:St)|(.inr (l13,l14))=>aG Γ (.goto 0) (⟨[],(Z9 30000 35000 l14 l13 37001 l13.length),[]⟩:St)) (λ⟨i5,i6,l7,l8,l9⟩ y h=>Ae q [0,1,10,11,28,29,30] V3 (gC h (λh=>Ae q [0,1,10,11,12,28,29] V3 (tB h λx15 y15 h=>tC h λc16_ h=>tT q [0,1,10,11,12,28,29,36] V3 [⟨Xj,[],(.bool x15.1),(Z5 x15.2.2 x15.2.1 x15.2.1.length),[],[]⟩] (c1 (W9 y15)) (gC h (λh=>tS h (gO (Bd (Bk [] Hb q)))) λh=>tB h λx17 y17 h=>tC h λc18_ h=>tC h λc19_ h=>tT q fu V3 [⟨Xj,[],(Qh x17.1),(Z5 x17.2.2 x17.2.1 x17.2.1.length),[],[]⟩] (c3 (HL y17) c19_ (Eq.refl l7.length)) (M4 (Le.trans (Sp 26 (show ∀ k_,k_<l7.length->AVleL ((λi_=>AV.eraseAll (λn_=>B3 n_ V3) ((E0 (λi=>Dd (l7.getD i 0)) i6.toNat 0 [(Qh x17.1)]) i_)) k_) ((λi=>Dd ((l7.set i6.toNat x17.1).getD i 0)) k_) from(Bc (Cm ..).symm (λk_ hk_=>(Bx (AV.eraseAll (λn_=>B3 n_ V3)) ((Fq (λ_ _=>rfl) (Gs c19_) rfl) k_ hk_)).trans rfl)))) (Sq (λ(k_:Nat) u=>(Cs u [(11,(.vsl 26 k_))] [(26,.arr 1 37 k_ (λi=>Dd ((l7.set i6.toNat x17.1).getD i 0)))])) (show l7.length=(l7.set i6.toNat x17.1).length from(Cm ..).symm))) (tW q fu V3 fu V3 (tN h)))))) λh=>tS h (gO (Bd (Bk [11] V3 q))))) λx20 h=>(match x20,h with | .inl ⟨l10,l11,l12⟩,h=>gA (Ae q Sk V3 (Ox (⟨[(8,(.vsl 26 l10.length)),(9,Px)],(yw l10 l12 l11),[]⟩:St) (tS h (WS (Lj (Ht [(30000,30000),(37001,37001),(35000,35000),(26,20000)] (Le.trans (F1 (nm:=26) (sz:=1) (n:=l10.length) (e:=37) (f:=(λi=>Dd (l10.getD i 0))) (g:=(λi=>Dd (l10.getD i 0))) rfl ⟨rfl,trivial⟩ (λ_ _=>rfl) (by rw[hΓ];rfl)) (Ib (st':=⟨[(8,(lg l10 26)),(9,Px)],[(26,.tok 1 37 l10.length),(KM 30000 35000 l12.length l11 37001),(FV 35000 l12),(AR 37001 l11.length)],[]⟩) (by kernel_rfl))))))))) | .inr ⟨l13,l14⟩,h=>nJ (λst' hl22=>tS h (mG (Le.trans hl22 Jh))))))))) (λ⟨l1,l2⟩ y h=>gR q Sk Hb [(8,lH)] [] (c1 (Bh 1 Dd (0:Int))) (Ox (⟨[(8,lH),(9,bT)],(wd l2 l1),[]⟩:St) (tS h (WS (Lj (Ht wY (show Le Γ _ (yu l2 l1) from Le.trans (Bk (st':=⟨[(8,lH),(9,bT)],(wd l2 l1),[]⟩) Sk Hb q) (Le.trans (Nl (t:=8) (nm:=6008) (sz':=1) (λi=>Dd (([]:Am).getD i 0)) 37 rfl rfl (.inl ⟨rfl,rfl⟩) (λh_=>absurd h_ (by decide))) (Bk (st':=(yu l2 l1)) Sk rX q))))))))) (Pz (λst' hk=>tS h (gK hk))))
abbrev jL:=(Am×Int×Int×Int×List Ad×Ey×Am)
def E9(a0:C5)(a2:Ey)(a4:Int)(a3:Int)(a7:Am)(a5:List Ad):Option jL:=
 (Aw (A0 (0:Int) a0.Args.length) ((Be (a0.Args.getD (0:Int).toNat (0:Int)) a2 a4 a3 a7 a5).bind λx2=>((Ra x2 a0.Bits a0.Lanes a7 a5).bind λx3=>(Aw (a7.length=x3.2.2.2.length) (some (x3.1,x3.2.1,a4,a3,x3.2.2.1,a2,x3.2.2.2))))))
variable{v42:jL}
theorem S5(h:E9 v8 v16 v4 v13 v0 v33=some v42):sP 53 [(Ha 30000),(IH v8)] (Z1 v16 v4 v13 v0 v33 v33.length) (.tuple (jy v42.1 v42.2.1)) (Z7 v42.2.2.2.2.2.1 v42.2.2.1 v42.2.2.2.1 v42.2.2.2.2.2.2 v42.2.2.2.2.1 v42.2.2.2.2.1.length v42.1.length):=
 sG Tryz.func53 λΓ q=>gR q Ou Vg [(4,bU)] [] (c1 (Bh 1 Dd (0:Int))) (tC h λc1_ h=>tB h λx2 y2 h=>tB h λx3 y3 h=>tC h λc4_ h=>tT q Ov rK [(z7 x2 v16 v4 v13 v0 v33 v33.length),⟨rJ,[(20000,20)],(.tuple (jy x3.1 x3.2.1)),(xJ x3.2.2.2.length x3.2.2.1 x3.2.2.1.length x3.2.2.2 x3.1.length),[],[]⟩] (SB c1_ (Cq y2) (nL [(.row 85 (YJ v16.length v4 v13)),(.row 79 (WO 35100 v0.length v33 37101)),(.tok 3 49 v33.length),(.arr 1 26 v16.length (λi=>D7 (v16.getD i []))),(.arr 1 5 v0.length (λi=>Qi (v0.getD i 0))),(.obj (.tab .i64 YE))] (c1 (PU y3)))) (tS h (Bi wV)))
abbrev Abo:=(Int×Int×Int×List Ad×Am)
def Hn(aaF:Int):Abo->Option (LR (Int×Int×Int×List Ad×Am) (List Ad×Am)):=
 λ((i1,i2,i3,l4,l5):Abo)=>(bif (decide (i3<aaF)) then(Aw (A0 i1 l5.length) (Aw (l4.length+([(⟨true,i1,(wR i2)⟩:Ad)]:List Ad).length<=room) (some (.next ((Et (i1+1)),(O0 .u64 i2 (8:Int)),(w64 (i3+1)),(l4++([(⟨true,i1,(wR i2)⟩:Ad)]:List Ad)),(l5.set i1.toNat (wR i2))))))) else(some (.done (l4,l5))))
def sR(i1:Int)(i2:Int):=([(⟨true,i1,(wR i2)⟩:Ad)]:List Ad)
def Mg(aN:Int)(aaF:Int)(aK:Int)(a6:Am)(aB:List Ad):Option QF:=
 ((Ac (Hn aaF) (aN,aK,(0:Int),aB,a6)).bind (λ(l6,l7)=>(some (l6,l7))))
variable{v43:QF}
theorem FS(h:Mg v4 v13 v21 v0 v33=some v43):sP 107 [(Ha 30000),(Qh v4),(Ax v13),(Qh v21)] (Z5 v0 v33 v33.length) (.tuple []) (Z5 v43.2 v43.1 v43.1.length):=
 sG Tryz.func107 λΓ q=>Ae q GX Hb (tL q h GX Hb (λu (i1,i2,i3,l4,l5)=>(Cs u [(1,(Qh i1)),(3,(Qh i2)),(C6 10 i3)] (Z9 30000 35000 l5 l4 37001 l4.length))) (λu (l6,l7)=>aG Γ (.exit 0) (⟨[],(Z9 30000 35000 l7 l6 37001 l6.length),[]⟩:St)) (λ⟨i1,i2,i3,l4,l5⟩ y h=>Ae q [0,1,3,9,10,11] Hb (gC h (λh=>Ae q [0,1,3,8,9,10] Hb (tC h λc8_ h=>tU q [0,1,3,8,9,10] Hb (c2 c8_ (Eq.refl l5.length)) (M4 (Le.trans (Sp 35000 (show ∀ k_,k_<l5.length->AVleL ((λi_=>AV.eraseAll (λn_=>B3 n_ Hb) ((E0 (λi=>Qi (l5.getD i 0)) i1.toNat 0 [(.int .u8 (wR i2))]) i_)) k_) ((λi=>Qi ((l5.set i1.toNat (wR i2)).getD i 0)) k_) from(Bc (Cm ..).symm (λk_ hk_=>(Bx (AV.eraseAll (λn_=>B3 n_ Hb)) ((Fq (λ_ _=>rfl) (Gs c8_) rfl) k_ hk_)).trans rfl)))) (Sq (λ(k_:Nat) u=>(Cs u [] [(KM 30000 35000 k_ l4 37001),(35000,.arr 1 5 k_ (λi=>Qi ((l5.set i1.toNat (wR i2)).getD i 0)))])) (show l5.length=(l5.set i1.toNat (wR i2)).length from(Cm ..).symm))) (tC h λc9_ h=>gR q GX Hb (zx (sR i1 i2) l4) [] (c5 (Ca 3 Fs (default:Ad) (sR i1 i2)) (Eq.refl l4.length) c9_ (Kh 3 37001 Fs (default:Ad) l4 (sR i1 i2)) (Ft l4 (sR i1 i2))) (tU q GX Hb (c1 (show(0<=(8:Int)) from(by decide))) (tW q GX Hb GX Hb (tN h))))))) λh=>tS h (gO (Bd (Bk [] Hb q))))) λx10 h=>(match x10,h with|⟨l6,l7⟩,h=>nJ (λst' hl11=>tS h (gK (e:=.normal) (Ht Xj hl11)))))
abbrev Abp:=(Int×Int×List Ad×Am)
def Hx(aJ:Am)(x3:Int):Abp->Option (LR (Int×Int×List Ad×Am) ((List Ad×Am) ⊕ (List Ad×Am))):=
 λ((i4,i5,l6,l7):Abp)=>(bif (decide (i5<(aJ.length:Int))) then(Aw (A0 i5 aJ.length) ((Mr i4 x3 l7 l6).bind λx13=>(Aw (l7.length=x13.2.2.length) (bif (!x13.1) then(some (.done (.inr (x13.2.1,x13.2.2)))) else((Mg i4 x3 (aJ.getD i5.toNat 0) x13.2.2 x13.2.1).bind λx15=>(Aw (x13.2.2.length=x15.2.length) (some (.next ((Et (i4+(Et x3))),(w64 (i5+1)),x15.1,x15.2))))))))) else(some (.done (.inl (l6,l7)))))
def HJ :QF->Option (LR (List Ad×Am) (Int×List Ad×Am)):=
 λ(s_:QF)=>match s_ with|(l1,l2)=>(some (.done ((8:Int),l1,l2)))
def PG(Γ:Il)(aN:Int)(aH:Int)(aJ:Am)(a6:Am)(aB:List Ad)(r:jK):Exit->St->Prop:=fK Tryz.prog Γ Tryz.f81.results.toList (Z5 a6 aB aB.length) (Ax r.1) (Z5 r.2.2 r.2.1 r.2.1.length)
def Pp(aN:Int)(aH:Int)(aJ:Am)(a6:Am)(aB:List Ad):Option jK:=
 ((N6 (S:=QF) (X:=jK) ((O7 aH).bind λx3=>(bif (bif (x3==0) then true else(decide ((16:Int)<(aJ.length:Int)))) then(some (.done ((1:Int),aB,a6))) else((Ac (Hx aJ x3) (aN,(0:Int),aB,a6)).bind (λx17=>(match x17 with|(.inl (l8,l9))=>(some (.done ((0:Int),l8,l9)))|(.inr (l10,l11))=>(some (.next (l10,l11)))))))) HJ).bind (λx20=>(some x20)))
theorem LS(h:Pp v4 v13 v0 v1 v33=some v40):sP 81 [(Ha 30000),(Qh v4),(Ax v13),(f5 v0)] (Z5 v1 v33 v33.length) (Ax v40.1) (Z5 v40.2.2 v40.2.1 v40.2.1.length):=
 sG Tryz.func81 λΓ q=>Ae q WB Hb (tB h λx20 y20 h=>gS y20 (λ(s_:QF)=>match s_ with|(l1,l2)=>0) (λ(s_:QF)=>match s_ with|(l1,l2)=>(⟨[],(Z9 30000 35000 l2 l1 37001 l1.length),[]⟩:St)) (λr_=>aR (PG Γ v4 v13 v0 v1 v33 r_)) (λy h=>tB h λx3 y3 h=>tT q [0,1,3,9] Hb [(XA x3)] (c1 (DI y3)) (tU q [0,1,3,9,20] Hb (Lz ((x3==0)==false) (c1 (Ld (x3==0)))) (gC h (λh=>Ae q [8] Hb (tS h (WS (Lj (Ht Xj (Le.refl _ _)))))) λh=>Ae q VJ Hb (tL q h VJ Hb (λu (i4,i5,l6,l7)=>(Cs u [(1,(Qh i4)),(C6 23 i5)] (Z9 30000 35000 l7 l6 37001 l6.length))) (λu x_=>match x_ with|(.inl (l8,l9))=>aG Γ (.exit 0) (⟨[],(Z9 30000 35000 l9 l8 37001 l8.length),[]⟩:St)|(.inr (l10,l11))=>aG Γ (.goto 0) (⟨[],(Z9 30000 35000 l11 l10 37001 l10.length),[]⟩:St)) (λ⟨i4,i5,l6,l7⟩ y h=>Ae q [0,1,9,21,22,23,24] Hb (gC h (λh=>tV q [0,1,9,11,21,22,23] Hb h λh=>tB h λx13 y13 h=>tC h λc14_ h=>tT q [0,1,9,11,21,22,23,31] Hb [⟨Xj,[],(.bool x13.1),(Z5 x13.2.2 x13.2.1 x13.2.1.length),[],[]⟩] (c1 (W9 y13)) (gC h (λh=>tS h (gO (Bd (Bk [] Hb q)))) λh=>tB h λx15 y15 h=>tC h λc16_ h=>tT q VJ Hb [⟨Xj,[],(.tuple []),(Z5 x15.2 x15.1 x15.1.length),[],[]⟩] (c1 (FS y15)) (tW q VJ Hb VJ Hb (tN h)))) λh=>tS h (gO (Bd (Bk [] Hb q))))) λx17 h=>(match x17,h with | .inl ⟨l8,l9⟩,h=>gA (Ae q [8] Hb (tS h (WS (Lj (Ht Xj (Le.refl _ _)))))) | .inr ⟨l10,l11⟩,h=>nJ (λst' hl19=>tS h (mG (Le.trans hl19 Jh)))))))) (λ⟨l1,l2⟩ y h=>Ae q [8] Hb (tS h (WS (Lj (Ht Xj (Le.refl _ _)))))) (Pz (λst' hk=>tS h (gK hk))))
end
end Go.Proofs.YtaeaenoaomdimaaGreat
