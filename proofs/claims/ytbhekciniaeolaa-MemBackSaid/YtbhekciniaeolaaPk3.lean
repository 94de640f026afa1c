/-
  The machine, the program's functions and the laws' arithmetic: part 3 of 3.
-/
import Derived.Test.YtbhekciniaeolaaPk2
import Derived.OpenShut
import Derived.ShutString
import Derived.Test.YtbhekciniaeolaaProg
set_option linter.unusedVariables false
set_option linter.unusedSimpArgs false
namespace Go.Proofs.Ytbhekciniaeolaa
noncomputable section
open Go Go.RowKit
inductive Sv where
 | nx (y:Code)
 | bl (id:Nat)
 | ag (c:Code) (n:Nat)
inductive De where
 | run (c:Code) (fs:List Sv)
 | out (e:Exit) (fs:List Sv)
def Py(P:Program)(Γ:Cy)(K:Exit→St→Prop):List Sv→Exit→St→Prop
 | []=>K
 | .nx y::fs=>Ub P Γ y (Py P Γ K fs)
 | .bl id::fs=>Gp id (Py P Γ K fs)
 | .ag c n::fs=>fun e st=>(e = .normal∧Ov P Γ c (Py P Γ K fs) n st)∨(e≠.normal∧Py P Γ K fs e st)
def GG(P:Program)(Γ:Cy)(K:Exit→St→Prop):De→St→Prop
 | .run c fs,st=>E7 P Γ c (Py P Γ K fs) st
 | .out e fs,st=>Py P Γ K fs e st
def Fb:Code→Nat→Nat
 | .exit i,k=>bif Nat.beq i k then 1 else 0
 | .seq a b,k=>Nat.min 2 (Fb a k+Fb b k)
 | .cond _ a b,k=>Nat.min 2 (Fb a k+Fb b k)
 | .loop c,k=>Nat.min 1 (Fb c k)
 | .scope c,k=>Nat.min 1 (Fb c k)
 | .block _ c,k=>Fb c k
 | _,_=>0
def Dx:Code→Nat
 | .region _ _ _=>1
 | .skip=>1
 | .label _=>1
 | .seq a b=>bif Nat.beq (Dx a) 0 then 0 else Dx b
 | .cond _ a b=>Nat.min 2 (Dx a+Dx b)
 | .block i c=>Nat.min 2 (Dx c+Fb c i)
 | .scope c=>Nat.min 2 (Dx c)
 | _=>0
def Ru(a:Code):Bool:=match a with | .region _ _ _=>false|a=>Nat.ble 2 (Dx a)
def Js:Nat→Code ⊕ Exit→List Sv→De
 | 0,.inl c,fs=>.run c fs
 | 0,.inr e,fs=>.out e fs
 | n+1,.inl c,fs=>
  match c with
  | .skip=>Js n (.inr .normal) fs
  | .label _=>Js n (.inr .normal) fs
  | .seq a b=>bif Ru a then .run (.seq a b) fs else Js n (.inl a) (.nx b::fs)
  | .block id a=>Js n (.inl a) (.bl id::fs)
  | .exit id=>Js n (.inr (.exit id)) fs
  | .goto l=>Js n (.inr (.goto l)) fs
  | .ret=>Js n (.inr .ret) fs
  | c=>.run c fs
 | n+1,.inr e,fs=>
  match fs with
  | []=>.out e []
  | .nx y::fs=>(match e with | .normal=>Js n (.inl y) fs|e=>Js n (.inr e) fs)
  | .bl id::fs=>(match e with | .exit i=>bif Nat.beq i id then Js n (.inr .normal) fs else Js n (.inr (.exit i)) fs|e=>Js n (.inr e) fs)
  | .ag c m::fs=>(match e with | .normal=>(match m with|0=>.out .normal (.ag c 0::fs)|m+1=>Js n (.inl c) (.ag c m::fs))|e=>Js n (.inr e) fs)
section
variable {P:Program} {Γ:Cy} {K:Exit→St→Prop}
theorem An:∀(n:Nat) (x:Code ⊕ Exit) (fs:List Sv) (st:St),GG P Γ K (Js n x fs) st→(match x with | .inl c=>E7 P Γ c (Py P Γ K fs) st | .inr e=>Py P Γ K fs e st)
 | 0,.inl c,fs,st,h=>h
 | 0,.inr e,fs,st,h=>h
 | n+1,.inl c,fs,st,h=>by
  cases c with
  | skip=>exact Rh (An n (.inr .normal) fs st h)
  | label l=>exact Pr (An n (.inr .normal) fs st h)
  | seq a b=>
   cases hj:Ru a with
   | true=>simp only[Js,hj,cond_true]at h;exact h
   | false=>simp only[Js,hj,cond_false]at h;exact Oy (An n (.inl a) (.nx b::fs) st h)
  | block id a=>exact Pq (An n (.inl a) (.bl id::fs) st h)
  | exit id=>exact Ra (An n (.inr (.exit id)) fs st h)
  | goto l=>exact Rb (An n (.inr (.goto l)) fs st h)
  | ret=>exact S3 (An n (.inr .ret) fs st h)
  | _=>exact h
 | n+1,.inr e,[],st,h=>h
 | n+1,.inr e,.nx y::fs,st,h=>by
  cases e with
  | normal=>exact An n (.inl y) fs st h
  | exit i=>exact An n (.inr (.exit i)) fs st h
  | goto l=>exact An n (.inr (.goto l)) fs st h
  | ret=>exact An n (.inr .ret) fs st h
  | panic c=>exact An n (.inr (.panic c)) fs st h
  | outgrown=>exact An n (.inr .outgrown) fs st h
 | n+1,.inr e,.bl id::fs,st,h=>by
  cases e with
  | normal=>exact An n (.inr .normal) fs st h
  | exit i=>
   show Gp id (Py P Γ K fs) (.exit i) st
   cases hb:Nat.beq i id with
   | true=>
    obtain rfl:=Nat.eq_of_beq_eq_true hb;simp only[Js,hb,cond_true]at h;exact Ny (An n (.inr .normal) fs st h)
   | false=>
    simp only[Js,hb,cond_false]at h;exact Nx hb (An n (.inr (.exit i)) fs st h)
  | goto l=>exact An n (.inr (.goto l)) fs st h
  | ret=>exact An n (.inr .ret) fs st h
  | panic c=>exact An n (.inr (.panic c)) fs st h
  | outgrown=>exact An n (.inr .outgrown) fs st h
 | n+1,.inr e,.ag c m::fs,st,h=>by
  cases e with
  | normal=>
   cases m with
   | zero=>exact h
   | succ m=>exact .inl ⟨rfl,An n (.inl c) (.ag c m::fs) st h⟩
  | exit i=>exact .inr ⟨(by intro hh;cases hh),An n (.inr (.exit i)) fs st h⟩
  | goto l=>exact .inr ⟨(by intro hh;cases hh),An n (.inr (.goto l)) fs st h⟩
  | ret=>exact .inr ⟨(by intro hh;cases hh),An n (.inr .ret) fs st h⟩
  | panic ch=>exact .inr ⟨(by intro hh;cases hh),An n (.inr (.panic ch)) fs st h⟩
  | outgrown=>exact .inr ⟨(by intro hh;cases hh),An n (.inr .outgrown) fs st h⟩
theorem Cj{n:Nat}{c:Code}{fs:List Sv}{st:St}(h:GG P Γ K (Js n (.inl c) fs) st):E7 P Γ c (Py P Γ K fs) st:=An n (.inl c) fs st h
theorem Hh{n:Nat}{e:Exit}{fs:List Sv}{st:St}(h:GG P Γ K (Js n (.inr e) fs) st):Py P Γ K fs e st:=An n (.inr e) fs st h
def U3(c:Code)(fs:List Sv):De:=Js 400 (.inl c) fs
def Wh(e:Exit)(fs:List Sv):De:=Js 400 (.inr e) fs
def W2:De→De
 | .run _ fs=>Wh .normal fs
 | x=>x
def Tk:De→Option (List Oper×Bool)
 | .run (.region _ ops draw) _=>some (ops.toList,draw)
 | _=>none
def Vc(P:Program)(S:G0)(n:Nat)(cs:List (Nat×AV))(live names:List Nat)(x:De)(st:St)(rs:List Gg):Option (St×List Prop×Bool):=
 match Tk x with
 | some (ops,draw)=>It P S n cs live names ops draw st rs
 | none=>none
def Wj(P:Program)(S:G0)(n:Nat)(cs:List (Nat×AV))(live names:List Nat)(x:De)(st:St)(rs:List Gg):St:=
 match Vc P S n cs live names x st rs with
 | some r=>r.1
 | none=>st
def U4(r:Option (St×List Prop×Bool)):Option (Prop×Bool):=
 match r with
 | some r=>some (Mu r.2.1,r.2.2)
 | none=>none
theorem gR{x:De}{st:St}{n:Nat}{H:List (Nat×Own)}(q:RgQ P Γ n H)(live names:List Nat)(cs:List (Nat×AV))(rs:List Gg){O:Prop}(hO:O)
  (k:GG P Γ K (W2 x) (Wj P (Spec P) n cs live names x st rs))
  (h:U4 (Vc P (Spec P) n cs live names x st rs)=some (O,true):=by kernel_rfl) (hh:(H.all fun x=>Cf x.1 names)=true:=by kernel_rfl):GG P Γ K x st:=by
 unfold Vc at h;unfold Wj Vc at k
 cases x with
 | out e fs=>simp[Tk,U4]at h
 | run c fs=>
  cases c with
  | region id ops draw=>
   simp only[Tk]at h k
   cases hr:It P (Spec P) n cs live names ops.toList draw st rs with
   | none=>rw[hr]at h;simp[U4]at h
   | some r=>
    obtain⟨st',obs,d⟩:=r;rw[hr]at h k;simp only[U4,Option.some.injEq,Prod.mk.injEq]at h;obtain⟨rfl,rfl⟩:=h;have:=Nw (id:=id) (K:=Py P Γ K fs) q.hn q.mix (q.hand hh) hr hO (Hh k);exact(by simpa using this:E7 P Γ (.region id ops draw) (Py P Γ K fs) st)
  | _=>simp[Tk,U4]at h
theorem B3{x:De}{st:St}{n:Nat}{H:List (Nat×Own)}(q:RgQ P Γ n H)(live names:List Nat)
  (k:GG P Γ K (W2 x) (Wj P (Spec P) n [] live names x st []))
  (h:U4 (Vc P (Spec P) n [] live names x st [])=some (True,true):=by kernel_rfl) (hh:(H.all fun x=>Cf x.1 names)=true:=by kernel_rfl):GG P Γ K x st:=gR q live names [] [] trivial k h hh
def T9:De→Bool | .run _ _=>true|_=>false
theorem U2{x:De}{st st':St}(h:Le Γ st st')
  (k:GG P Γ K x st')
  (hx:T9 x=true:=by kernel_rfl):GG P Γ K x st:=by
 cases x with
 | run c fs=>exact Rd h k
 | out e fs=>cases hx
theorem T8{x:De}{st:St}(st':St)
  (k:GG P Γ K x st')
  (h:st=st':=by kernel_rfl):GG P Γ K x st:=h▸k
def Rm(x:De)(st:St):AV:=match x with | .run (.cond c _ _) _=>Mx st.get c|_=>.any
def Vb(b:Bool):De→De
 | .run (.cond _ c d) fs=>U3 (bif b then c else d) fs
 | x=>x
theorem gC{x:De}{st:St}{R:Type}{b:Bool}{m1 m2:Option R}{r:R}(h:(bif b then m1 else m2)=some r)
  (kt:m1=some r→GG P Γ K (Vb true x) st) (kf:m2=some r→GG P Γ K (Vb false x) st)
  (hv:Rm x st = .bool b:=by kernel_rfl):GG P Γ K x st:=by
 cases x with
 | out e fs=>cases hv
 | run c fs=>
  cases c with
  | cond c y z=>
   refine Ms b hv (fun hb=>Cj (n:=400) (kt ?_)) (fun hb=>Cj (n:=400) (kf ?_))
   ·subst hb;exact h
   ·subst hb;exact h
  | _=>cases hv
theorem Vg{x:De}{st:St}(b:Bool)
  (k:GG P Γ K (Vb b x) st)
  (hv:Rm x st = .bool b:=by kernel_rfl):GG P Γ K x st:=by
 cases x with
 | out e fs=>cases hv
 | run c fs=>
  cases c with
  | cond c y z=>
   refine Ms b hv (fun hb=>Cj (n:=400) ?_) (fun hb=>Cj (n:=400) ?_)
   ·subst hb;exact k
   ·subst hb;exact k
  | _=>cases hv
theorem Vh{x:De}{st:St}(pos:Bool)(n:Nat)
  (kt:(pos=true→n=0)→GG P Γ K (Vb true x) st) (kf:(pos=false→n=0)→GG P Γ K (Vb false x) st)
  (hv:Rm x st = .nilq pos n:=by kernel_rfl):GG P Γ K x st:=by
 cases x with
 | out e fs=>cases hv
 | run c fs=>
  cases c with
  | cond c y z=>exact Rg pos n hv (fun hb=>Cj (n:=400) (kt hb)) (fun hb=>Cj (n:=400) (kf hb))
  | _=>cases hv
theorem gB{R:Type}{c:Bool}{m1 m2:Option R}{r:R}{G:Prop}(h:(bif c then m1 else m2)=some r)(kt:c=true→m1=some r→G)(kf:c=false→m2=some r→G):G:=by
 cases c with
 | true=>exact kt rfl h
 | false=>exact kf rfl h
theorem V4(F:Bool→Prop){c b:Bool}(hs:c=b)(h:F c):F b:=hs▸h
theorem Dr{a b:Bool}(h:a=b):AVle (.bool a) (.bool b):=by rw[h];exact .refl _
theorem Hb{p:Prop}(h:false=true):p:=Bool.noConfusion h
theorem W7{p:Prop}(h:true=false):p:=Bool.noConfusion h
theorem gK{x:De}{st:St}{e:Exit}(h:K e st)(hx:x = .out e []:=by kernel_rfl):GG P Γ K x st:=by subst hx;exact h
def aG(Γ:Cy)(e0:Exit)(og:St):Exit→St→Prop:=fun e st=>e=e0∧Le Γ st og
def aR(K:Exit→St→Prop):Exit→St→Prop:=fun e st=>e = .ret∧K e st
theorem Pn{e0:Exit}{og st:St}(h:Le Γ st og):aG Γ e0 og e0 st:=⟨rfl,h⟩
theorem Sy{st:St}(h:K .ret st):aR K .ret st:=⟨rfl,h⟩
def W8:Exit→Bool | .normal=>true|_=>false
theorem gN{S X:Type}{x:De}{st:St}{H:S→St}{KX:X→Exit→St→Prop}{s':S}(h:Le Γ st (H s'))(hx:x = .out .normal []:=by kernel_rfl):GG P Γ (Mb Γ H KX (.next s')) x st:=by
 subst hx;exact⟨rfl,h⟩
theorem gO{S X:Type}{x:De}{st:St}{H:S→St}{KX:X→Exit→St→Prop}{y:X}{e:Exit}(h:KX y e st)(hx:x = .out e []:=by kernel_rfl)(hn:W8 e=false:=by kernel_rfl):GG P Γ (Mb Γ H KX (.done y)) x st:=by
 subst hx;exact⟨(by rintro rfl;cases hn),h⟩
def fK(P:Program)(Γ:Cy)(rs:List ResultVar)(H:List (Nat×Own))(res:AV)(H':List (Nat×Own)):Exit→St→Prop:=W0 Γ (Vw P rs H res H')
theorem N4{rs:List ResultVar}{H H':List (Nat×Own)}{res:AV}{st st':St}{e:Exit}(ρ:List (Nat×Nat))(hl:Le Γ st st')(hr:Pf P rs ρ H st'=some (res,H'):=by kernel_rfl)
  (he:(match e with | .ret=>true | .normal=>true|_=>false)=true:=by kernel_rfl):fK P Γ rs H res H' e st:=by
 refine⟨st',hl,?_,ρ,hr⟩
 cases e with
 | ret=>exact .inl rfl
 | normal=>exact .inr rfl
 | _=>cases he
theorem Gz{rs:List ResultVar}{H H':List (Nat×Own)}{res:AV}{x:De}{st:St}(ρ:List (Nat×Nat))(hr:Pf P rs ρ H st=some (res,H'):=by kernel_rfl)
  (hx:x = .out .ret []:=by kernel_rfl):GG P Γ (fK P Γ rs H res H') x st:=gK (e:=.ret) (N4 ρ (Le.refl _ _) hr) hx
def Nz(fn:Func):Code:=match fn.body with|some c=>c|none=>.skip
theorem A8 {f : FuncId} {fn : Func} {args : List AV} {H H' : List (Nat × Own)} {res : AV} (hm : P.follows .mixedOrders = true) (hf : P.funcs[f]? = some fn)
    (k : ∀ Γ : Cy, RgQ P Γ fn.ntmps H → GG P Γ (fK P Γ fn.results.toList H res H') (U3 (Nz fn) []) (Jk args H))
    (hb : fn.body.isSome = true := by kernel_rfl) (hname : (fn.name == "runtime.NumGoroutine") = false := by kernel_rfl) (hlen : Nat.ble args.length fn.ntmps = true := by kernel_rfl) (hpl : L9 H = true := by kernel_rfl) : Spec P f args H res H' := by
  obtain ⟨c, hc⟩ := Option.isSome_iff_exists.1 hb
  have e : Nz fn = c := by unfold Nz; rw [hc]
  refine Nj hf hc hname hlen (fun Γ hn hΓ => ?_) hpl; have := k Γ ⟨hn, hm, hΓ⟩; rw [e] at this; exact Ug (Cj this)
theorem Um{st st':St}(h:st=st'):Le Γ st st':=h▸Le.refl Γ st
def Uk:De→Bool | .run (.loop _) _=>true|_=>false
def Va:De→De
 | .run (.loop c) _=>U3 c []
 | x=>x
def Vt(e:Exit):De→De
 | .run _ fs=>Wh e fs
 | x=>x
def Vu{α:Type}(k:Nat)(x:α):List (Nat×α)→List (Nat×α)
 | []=>[(k,x)]
 | (k',y)::l=>bif Nat.beq k k' then(k,x)::l else bif Nat.blt k k' then(k,x)::(k',y)::l else(k',y)::Vu k x l
def To{α:Type}:List (Nat×α)→List (Nat×α)→List (Nat×α)
 | [],l=>l
 | (k,x)::r,l=>To r (Vu k x l)
def Qk(st:St)(ts:List (Nat×AV))(os:List (Nat×Own))(fs:List (Nat×Qo):=[]):St:=⟨To ts st.tmps,To os st.own,To fs st.fam⟩
def W4(live names:List Nat)(st:St)(ts:List (Nat×AV))(os:List (Nat×Own))(fs:List (Nat×Qo):=[]):St:=Bq live names (Qk st ts os fs)
theorem gL{S X:Type}{x:De}{st:St}{n:Nat}{Hf:List (Nat×Own)}(q:RgQ P Γ n Hf){f:S→Option (LR S X)}{s0:S}{y:X}(hx:Ce f s0=some y)(live names:List Nat)(H:St→S→St)(KX:St→X→Exit→St→Prop)
  (kb:∀ s y,f s=some y→GG P Γ (Mb Γ (H (Bq live names st)) (KX (Bq live names st)) y) (Va x) (H (Bq live names st) s)) (ko:∀ e st',KX (Bq live names st) y e st'→GG P Γ K (Vt e x) st')
  (h0:Bq live names st=H (Bq live names st) s0:=by kernel_rfl) (hl:Uk x=true:=by kernel_rfl) (hh:(Hf.all fun x=>Cf x.1 names)=true:=by kernel_rfl):GG P Γ K x st:=by
 cases x with
 | out e fs=>cases hl
 | run c fs=>
  cases c with
  | loop c=>
   refine Rd (st':=H (Bq live names st) s0) ?_ (Re (H (Bq live names st)) f (KX (Bq live names st)) (fun s y hy=>Cj (kb s y hy)) hx fun e st' hk=>Hh (ko e st' hk));rw[← h0];exact Jp live names q rfl hh
  | _=>cases hl
theorem gA{x:De}{f:Exit→De→De}{e0:Exit}{og:St}
  (k:GG P Γ K (f e0 x) og)
  (hr:T9 (f e0 x)=true:=by kernel_rfl):∀ e st',aG Γ e0 og e st'→GG P Γ K (f e x) st':=by
 rintro e st' ⟨rfl,hl⟩;exact U2 hl k hr
theorem Wi{x:De}{f:Exit→De→De}{e0:Exit}{og:St}(k:∀ st',Le Γ st' og→GG P Γ K (f e0 x) st'):∀ e st',aG Γ e0 og e st'→GG P Γ K (f e x) st':=by
 rintro e st' ⟨rfl,hl⟩;exact k st' hl
theorem Vf{x:De}{f:Exit→De→De}{K':Exit→St→Prop}(k:∀ st',K' .ret st'→GG P Γ K (f .ret x) st'):∀ e st',aR K' e st'→GG P Γ K (f e x) st':=by
 rintro e st' ⟨rfl,hl⟩;exact k st' hl
def Vj:De→Bool | .run (.seq _ _) _=>true|_=>false
def Vi:De→De
 | .run (.seq a _) _=>U3 a []
 | x=>x
def Vv(e:Exit):De→De
 | .run (.seq _ b) fs=>Wh e (.nx b::fs)
 | x=>x
theorem gJ{X:Type}{x:De}{st:St}{m:Option X}{y:X}(hx:m=some y)(KX:X→Exit→St→Prop)
  (kb:∀ y,m=some y→GG P Γ (KX y) (Vi x) st) (ko:∀ e st',KX y e st'→GG P Γ K (Vv e x) st')
  (hs:Vj x=true:=by kernel_rfl):GG P Γ K x st:=by
 cases x with
 | out e fs=>cases hs
 | run c fs=>
  cases c with
  | seq a b=>exact Oy (Rc KX hx (fun y hy=>Cj (kb y hy)) fun e st' hk=>Hh (ko e st' hk))
  | _=>cases hs
def Tb:De→Bool | .run (.scope _) _=>true|_=>false
def Vx:De→Code | .run (.scope c) _=>c|_=>.skip
def Vk(c:Code)(l:Nat):De:=U3 ((findLabel c l).getD .skip) []
theorem gS{S X:Type}{x:De}{st:St}{f0:Option (LR S X)}{f:S→Option (LR S X)}{y:X}(hx:Ed f0 f=some y)(lab:S→Nat)(H:S→St)(KX:X→Exit→St→Prop)
  (k0:∀ y,f0=some y→GG P Γ (Jm Γ (Vx x) lab H KX y) (U3 (Vx x) []) st) (kb:∀ s y,f s=some y→GG P Γ (Jm Γ (Vx x) lab H KX y) (Vk (Vx x) (lab s)) (H s)) (ko:∀ e st',KX y e st'→GG P Γ K (Vt e x) st')
  (hs:Tb x=true:=by kernel_rfl):GG P Γ K x st:=by
 cases x with
 | out e fs=>cases hs
 | run c fs=>
  cases c with
  | scope c=>
   refine Ps lab H f0 f KX (fun y hy=>Cj (k0 y hy)) (fun s y rest hf hy=>?_) hx fun e st' hk=>Hh (ko e st' hk);have:=kb s y hy;unfold Vk Vx at this;rw[hf]at this;exact Cj this
  | _=>cases hs
theorem W1{S X:Type}{x:De}{st:St}{c:Code}{lab:S→Nat}{H:S→St}{KX:X→Exit→St→Prop}{s':S}(h:Le Γ st (H s'))(hx:x = .out (.goto (lab s')) []:=by kernel_rfl)(hf:(findLabel c (lab s')).isSome=true:=by kernel_rfl) :
  GG P Γ (Jm Γ c lab H KX (.next s')) x st:=by
 subst hx;exact⟨rfl,hf,h⟩
theorem U1{S X:Type}{x:De}{st:St}{c:Code}{lab:S→Nat}{H:S→St}{KX:X→Exit→St→Prop}{y:X}{e:Exit}(h:KX y e st)(hx:x = .out e []:=by kernel_rfl)
  (hf:(match e with | .goto l=>(findLabel c l).isNone|_=>true)=true:=by kernel_rfl):GG P Γ (Jm Γ c lab H KX (.done y)) x st:=by
 subst hx;refine⟨?_,h⟩;rintro l rfl
 simpa using hf
theorem V6{α:Type}{st:St}(U:α→St→St){a b:α}(h:a=b)(h1:st=U a st:=by kernel_rfl):Le Γ st (U b st):=by subst h;exact Um h1
def Own.withF(g:Nat→List AV):Own→Own
 | .arr sz e n _=>.arr sz e n g
 | o=>o
def T6(st:St)(nm:Nat):Option (Nat×(Nat→List AV)):=match Ab st.own nm with|some (.arr _ _ n f)=>some (n,f)|_=>none
def Vy(nm:Nat)(g:Nat→List AV)(st:St):St:=⟨st.tmps,(match Ab st.own nm with|some o=>Co st.own nm (o.withF g)|none=>st.own),st.fam⟩
theorem Jz{nm sz n:Nat}{e:TypeId}{f g:Nat→List AV}(hp:∀ k,k<n→AVleL (f k) (g k)):∀{l:List (Nat×Own)},Ab l nm=some (.arr sz e n f)→OwnsLe l (Co l nm (.arr sz e n g))
 | [],h=>by cases h
 | (k,o)::l,h=>by
  simp only[Ab]at h;simp only[Co]
  cases hb:Nat.beq k nm with
  | true=>
   obtain rfl:=Nat.eq_of_beq_eq_true hb;rw[hb]at h;simp only[cond_true,Option.some.injEq]at h;subst h;exact .arr hp (.refl _)
  | false=>
   rw[hb]at h;exact .same (Jz hp h)
theorem V5{st:St}(nm:Nat){n:Nat}{f g:Nat→List AV}(hp:∀ k,k<n→AVleL (f k) (g k))(h:T6 st nm=some (n,f):=by kernel_rfl):Le Γ st (Vy nm g st):=by
 unfold T6 at h;unfold Vy
 cases ho:Ab st.own nm with
 | none=>rw[ho]at h;cases h
 | some o=>
  rw[ho]at h
  cases o with
  | arr sz e n' f'=>
   simp only[Option.some.injEq,Prod.mk.injEq]at h;obtain⟨rfl,rfl⟩:=h;exact Vl (TmpsLe.refl _) (Jz hp ho)
  | _=>cases h
theorem gI(g:Bool):g=true→g=true:=id
theorem Gt(c:Bool):c=true→(c==true)=true:=gT
theorem O3(c:Bool):c=false→(c==false)=true:=gF
theorem G2{α:Type}(sz:Nat)(e:α→List AV)(d:α)(l:List α):AVle (.slice sz l.length (fun i=>(l.map e).getD i []) .exact) (AV.list sz e d l .exact):=Lr rfl fun i h=>Te l i h
theorem Dk{α:Type}(sz:Nat)(e:α→List AV)(d:α):AVle (.slice 0 0 (fun _=>[]) .exact) (AV.list sz e d [] .exact):=Q2
theorem Lq{α:Type}(sz nm:Nat)(e:α→List AV)(d:α)(l m:List α):AVle (.slice sz (l.length+m.length) (Cz l.length (fun i=>e (l.getD i d)) (fun i=>e (m.getD i d))) (.own nm)) (AV.list sz e d (l++m) (.own nm)):=Uf
theorem Su{st st':St}(h:st=st':=by kernel_rfl):Le Γ st st':=h▸Le.refl Γ st
theorem ci{p q:Prop}(a:p)(b:q):p∧q:=⟨a,b⟩
theorem c1{p:Prop}(a:p):p∧True:=⟨a,trivial⟩
end
set_option maxRecDepth 100000
set_option maxHeartbeats 2000000
def eB(x:Bool):List AV:=[(.bool x)]
def Cu(x:Int):List AV:=[(.int .u64 x)]
def Wf(x:Int):List AV:=[(.int .i64 x)]
def Ve(x:List Int):List AV:=[(AV.list 1 Cu 0 x .none)]
structure TDo where
 Write:Bool
 At:Int
 Bits:Int
 N:Int
 List:List Int
 deriving Inhabited,DecidableEq
def eTDo(x:TDo):List AV:=[(.bool x.Write),(.int .u64 x.At),(.int .i64 x.Bits),(.int .i64 x.N),(AV.list 1 Cu 0 x.List .none)]
def eU8(x:Int):List AV:=[(.int .u8 x)]
def Wg(x:List Int):List AV:=[(AV.list 1 eU8 0 x .none)]
structure Aa where
 Write:Bool
 At:Int
 Byte:Int
 deriving Inhabited,DecidableEq
def Aq(x:Aa):List AV:=[(.bool x.Write),(.int .u64 x.At),(.int .u8 x.Byte)]
structure Ku where
 bytes:List Int
 trace:List Aa
 deriving Inhabited,DecidableEq
theorem mix:Try.prog.follows .mixedOrders=true:=by kernel_rfl
def Z1:=fun za zb zc zd zf=>((za,.row 63 [(.vsl zb zc),(AV.list 3 Aq default zd (.own zf))]):Nat×Own)
def Z2:=fun za (zb:List Int)=>((za,.arr 1 5 zb.length (fun i=>eU8 (zb.getD i 0))):Nat×Own)
def Z3:=fun za zb zc zd=>([(Z1 30000 35000 za zb 37001),(37001,.tok 3 49 zc),(Z2 35000 zd)]:List (Nat×Own))
def Z4:=fun za zb zc zd zf zg zm=>([(Z1 za zb zc zd zf),(Z2 zb zg),(zf,.tok 3 49 zm)]:List (Nat×Own))
def Z5:=fun za zb=>(⟨[(11,30000),(60011001,37001),(60011000,35000)],[(20000,75)],za,zb,[]⟩:Gg)
def Z6:=((AV.list 3 Aq default ([]:List Aa) .none):AV)
def Z7:=fun za=>((AV.list 3 Aq default za (.own 20000)):AV)
def Z8:=fun za zb zc zd zf zg zm zn zp zq zt=>(⟨[(za,30000),(zb,37001),(zc,35000)],[(20000,zd)],(.tuple [(AV.list 1 Cu 0 zf (.own 20000)),(.int .i64 zg)]),[(Z1 30000 35000 zm zn 37001),(37001,.tok 3 49 zp),(Z2 35000 zq),(20000,.tok 1 33 zt)],[]⟩:Gg)
def Z9:=fun za zb=>(⟨[(11,30000),(60011001,37001),(60011000,35000)],[],(.bool za),zb,[]⟩:Gg)
def Wc:=fun za zb zc zd zf=>([(Z1 30000 35000 za zb 37001),(37001,.tok 3 49 zc),(Z2 35000 zd),(20000,.tok 3 49 zf)]:List (Nat×Own))
def T3:=fun za=>([(AV.list 1 eU8 0 za .none)]:List AV)
def Hq:=fun za=>((.int .i64 za):AV)
def T4:=((.int .u64 (3:Int)):AV)
def Ww:=fun za zb=>([(29,(AV.list 3 Aq default za .exact)),(30,(AV.list 3 Aq default (zb++za) (.own 37001)))]:List (Nat×AV))
def Wd:=((AV.list 3 Aq default ([]:List Aa) .exact):AV)
def Wx:=fun za zb zc zd zf zg zm zn zp zq=>(⟨[(za,30000),(zb,37001),(zc,35000)],[(20000,zd)],(AV.list 1 eU8 0 zf (.own 20000)),[(Z1 30000 35000 zg zm 37001),(37001,.tok 3 49 zn),(Z2 35000 zp),(20000,.tok 1 5 zq)],[]⟩:Gg)
def Wy:=fun za zb zc zd zf=>(⟨[],[(20000,za),(21000,zb),(21001,zc)],(.tuple [(bif true then((.ptr 20000 0):AV) else .nilp),(Hq zd)]),(bif true then zf else[]),[]⟩:Gg)
def V3:=((AV.list 1 eU8 0 ([]:List Int) .exact):AV)
def U9:=(⟨[],[],(.bool false),[],[]⟩:Gg)
def Wz:=fun za zb=>(⟨[],[],(.tuple [(bif false then((.ptr 20000 0):AV) else .nilp),(Hq za)]),(bif false then zb else[]),[]⟩:Gg)

def Q3:AV:=V3
def Q4:=(⟨[(2,(.vsl 36002 ([]:List Int).length))],[(36002,.arr 1 5 (([]:List Int).length) (fun i=>eU8 (([]:List Int).getD i 0)))],[]⟩:St)
def As(a7:List Int):Option (List Int):=
 (C0 (a7.length≤room) (some a7))
theorem B8(a7:List Int)(r:List Int)(h:As a7=some r):Spec Try.prog 24 [(AV.list 1 eU8 0 a7 .none)] [] (.vsl 20000 r.length) [(20000,.arr 1 5 r.length (fun i=>eU8 (r.getD i 0)))]:=by
 refine A8 mix Try.func24 (fun Γ hq=>?_);unfold As at h;refine gR hq [0] [] [(2,Q3)] [] (c1 (Dk 1 eU8 (0:Int))) ?_;refine B3 hq [0,4] [] ?_;refine Vh true a7.length (fun hb=>?_) (fun hb=>?_)
 ·replace h:=R0 (some ([]:List Int)) (fun(l2:List Int)=>(C0 (l2.length≤room) (some l2))) h (hb rfl) rfl (fun h0=>by first|exact h0|simpa [C0,room] using h0);clear hb;refine gR hq [2] [] [(2,Q3)] [] (c1 (Dk 1 eU8 (0:Int))) ?_;refine T8 (⟨[(2,Q3)],[],[]⟩:St) ?_;cases h;exact gK (e:=.ret) (N4 [(36002,20000)] (show Le Γ _ Q4 from Le.trans (Jp (st':=⟨[(2,Q3)],[],[]⟩) [2] [] hq) (Le.trans (Ul (t:=2) (nm:=36002) (sz':=1) (fun i=>eU8 (([]:List Int).getD i 0)) 5 rfl rfl) (Jp (st':=Q4) [2] [36002] hq))))
 ·clear hb;obtain⟨hc1,h⟩:=Af h;refine gR hq [2] [7] [(5,Q3),(7,.vsl 7 0)] [] (ci (show(AVle (.slice 1 0 (fun i=>([]:List (List AV)).getD i []) .exact) Q3) from Lr rfl (fun i hi=>absurd hi (Nat.not_lt_zero i))) (c1 hc1)) ?_;obtain rfl:=OI h;exact Gz [(7,20000)]
def Q6(x1:List Int):List AV:=[(.vsl 8 x1.length),Wd]
def Q7(x1:List Int):=(⟨[(2,(.ptr 10 0)),(3,(.int .i64 (0:Int)))],[(8,.arr 1 5 x1.length (fun i=>eU8 (x1.getD i 0))),(10,.row 63 (Q6 x1))],[]⟩:St)
def Q5(x1:List Int):=(⟨[(2,(.ptr 10 0)),(3,(.int .i64 (0:Int)))],[(8,.arr 1 5 x1.length (fun i=>eU8 (x1.getD i 0))),(10,.row 63 [(.vsl 8 x1.length),(AV.list 3 Aq default ([]:List Aa) (.own 6102001))]),(6102001,.tok 3 49 (([]:List Aa).length))],[]⟩:St)
def Ct(a4:List Int):Option ((Bool×Ku)×Int):=
 (bif (decide (((4096:Int):Int)<(a4.length:Int))) then(some ((false,(default:Ku)),(4:Int))) else((As a4).bind fun x1=>(some ((true,(⟨x1,([]:List Aa)⟩:Ku)),(0:Int)))))
theorem Ex(a4:List Int)(r:((Bool×Ku)×Int))(h:Ct a4=some r):Spec Try.prog 10 [(AV.list 1 eU8 0 a4 .none)] [] (.tuple [(bif r.1.1 then((.ptr 20000 0):AV) else .nilp),(.int .i64 r.2)]) (bif r.1.1 then[(20000,.row 63 [(.vsl 21000 r.1.2.bytes.length),(AV.list 3 Aq default r.1.2.trace (.own 21001))]),(21000,.arr 1 5 r.1.2.bytes.length (fun i=>eU8 (r.1.2.bytes.getD i 0))),(21001,.tok 3 49 r.1.2.trace.length)] else[]):=by
 refine A8 mix Try.func10 (fun Γ hq=>?_);unfold Ct at h;refine B3 hq [0] [] ?_;refine B3 hq [0,6] [] ?_;refine gC h (fun h=>?_) (fun h=>?_)
 ·refine B3 hq [2,3] [] ?_;cases h;exact Gz []
 ·obtain⟨x1,hx1,h⟩:=bind_some h;refine gR hq [2,3] [8,10] [(9,(.agg (Q6 x1)))] [⟨[],[(20000,8)],(.vsl 20000 x1.length),[(Z2 20000 x1)],[]⟩] (ci (B8 a4 x1 hx1) (c1 (show(AVle (.agg [(.vsl 8 x1.length),(.slice 0 0 (fun _=>[]) .exact)]) (.agg (Q6 x1))) from(AVle.agg (.cons (AVle.refl _) (.cons Q2 .nil)))))) ?_;refine T8 (Q7 x1) ?_;cases h;exact gK (e:=.ret) (N4 [(10,20000),(8,21000),(6102001,21001)] (show Le Γ _ (Q5 x1) from Le.trans (Jp (st':=(Q7 x1)) [2,3] [8,10] hq) (Le.trans (M1 (r:=10) (j:=1) (nm:=6102001) (sz':=3) (fun i=>Aq (([]:List Aa).getD i default)) 49 rfl rfl (nl rfl) rfl (.inl ⟨rfl,rfl⟩) (fun h_=>absurd h_ (by decide))) (Jp (st':=(Q5 x1)) [2,3] [8,10,6102001] hq))))
def Cc(a1:Int):Option Int:=
 (Option.bind (α:=Bool) (bif (a1==8) then(some (a1==8)) else(bif (a1==16) then(some (a1==16)) else(bif (a1==32) then(some (a1==32)) else(some (a1==64))))) (fun x2=>(bif x2 then(some (Oo (Int.tdiv a1 (8:Int)))) else(some (0:Int)))))
theorem Fm(a1:Int)(r:Int)(h:Cc a1=some r):Spec Try.prog 25 [(.int .i64 a1)] [] (.int .i64 r) []:=by
 refine A8 mix Try.func25 (fun Γ hq=>?_);unfold Cc at h;refine B3 hq [0] [] ?_;refine B3 hq [0,3] [] ?_;obtain⟨x2,hx2,h⟩:=bind_some h;refine gJ hx2 (fun b1=>aG Γ .normal (⟨[(0,(Hq a1)),(4,(.bool b1))],[],[]⟩:St)) ?_ ?_
 ·clear h hx2;intro y h;refine B3 hq [0,3,4] [] ?_;refine gC h (fun h=>?_) (fun h=>?_)
  ·cases h;exact gK (Pn (Jp [0,4] [] hq))
  ·refine B3 hq [0,3,4] [] ?_;refine gC h (fun h=>?_) (fun h=>?_)
   ·cases h;exact gK (Pn (Jp [0,4] [] hq))
   ·refine B3 hq [0,3,4] [] ?_;refine gC h (fun h=>?_) (fun h=>?_)
    ·cases h;exact gK (Pn (Jp [0,4] [] hq))
    ·refine B3 hq [0,4] [] ?_;cases h;exact gK (Pn Su)
 ·clear hx2;refine gA ?_;refine gC h (fun h=>?_) (fun h=>?_)
  ·refine gR hq [2] [] [] [] (c1 (show((8:Int)≠0) from(by decide))) ?_;cases h;exact Gz []
  ·refine B3 hq [2] [] ?_;cases h;exact Gz []
def Q8(a3:Int):=((bif false then true else(decide (a3<1)))==false)
def Ba(a6:Int)(a3:Int)(a0:List Int)(a2:List Aa):Option (Bool×List Aa×List Int):=
 (bif (bif (bif false then true else(decide (a3<1))) then true else(decide (((a0.length:Int):Int)<a3))) then(some (false,a2,a0)) else(some ((decide (a6≤(Ek (Oo ((a0.length:Int)-a3))))),a2,a0)))
theorem B0(a6:Int)(a3:Int)(a0:List Int)(a2:List Aa)(r:(Bool×List Aa×List Int))(h:Ba a6 a3 a0 a2=some r):Spec Try.prog 16 [(.ptr 30000 0),(.int .u64 a6),(.int .i64 a3)] [(30000,.row 63 [(.vsl 35000 a0.length),(AV.list 3 Aq default a2 (.own 37001))]),(37001,.tok 3 49 a2.length),(35000,.arr 1 5 a0.length (fun i=>eU8 (a0.getD i 0)))] (.bool r.1) [(30000,.row 63 [(.vsl 35000 r.2.2.length),(AV.list 3 Aq default r.2.1 (.own 37001))]),(37001,.tok 3 49 r.2.1.length),(35000,.arr 1 5 r.2.2.length (fun i=>eU8 (r.2.2.getD i 0)))]:=by
 refine A8 mix Try.func16 (fun Γ hq=>?_);unfold Ba at h;refine B3 hq [0,1,2] [30000,35000,37001] ?_;refine gR hq [0,1,2,21] [30000,35000,37001] [] [] (ci (gI (false==false)) (ci (O3 false) (ci (gI (Q8 a3)) (ci (gI (Q8 a3)) (ci (gI (Q8 a3)) (ci (gI (Q8 a3)) (ci (gI (Q8 a3)) (ci (gI (Q8 a3)) (c1 (O3 (bif false then true else(decide (a3<1))))))))))))) ?_;refine gC h (fun h=>?_) (fun h=>?_)
 ·refine B3 hq [6] [30000,35000,37001] ?_;cases h;exact Gz [(30000,30000),(37001,37001),(35000,35000)]
 ·refine B3 hq [6] [30000,35000,37001] ?_;cases h;exact Gz [(30000,30000),(37001,37001),(35000,35000)]
def A2(a8:Int):(Int×Int×Int×List Aa×List Int)→Option (LR (Int×Int×Int×List Aa×List Int) (List Aa×List Int)):=
 fun((i1,i2,i3,l4,l5):(Int×Int×Int×List Aa×List Int))=>(bif (decide (i3<a8)) then(C0 (E0 i1 l5.length) (C0 (l4.length+([(⟨true,i1,(Tx i2)⟩:Aa)]:List Aa).length≤room) (some (.next ((Ek (i1+1)),(Sg .u64 i2 (8:Int)),(Oo (i3+1)),(l4++([(⟨true,i1,(Tx i2)⟩:Aa)]:List Aa)),(l5.set i1.toNat (Tx i2))))))) else(some (.done (l4,l5))))
def Q9(i1:Int)(i2:Int):=([(⟨true,i1,(Tx i2)⟩:Aa)]:List Aa)
def Bp(a6:Int)(a8:Int)(aC:Int)(a0:List Int)(a2:List Aa):Option (List Aa×List Int):=
 ((Ce (A2 a8) (a6,aC,(0:Int),a2,a0)).bind (fun(l6,l7)=>(some (l6,l7))))
theorem Gd(a6:Int)(a8:Int)(aC:Int)(a0:List Int)(a2:List Aa)(r:(List Aa×List Int))(h:Bp a6 a8 aC a0 a2=some r):Spec Try.prog 26 [(.ptr 30000 0),(.int .u64 a6),(.int .i64 a8),(.int .u64 aC)] [(30000,.row 63 [(.vsl 35000 a0.length),(AV.list 3 Aq default a2 (.own 37001))]),(37001,.tok 3 49 a2.length),(35000,.arr 1 5 a0.length (fun i=>eU8 (a0.getD i 0)))] (.tuple []) [(30000,.row 63 [(.vsl 35000 r.2.length),(AV.list 3 Aq default r.1 (.own 37001))]),(37001,.tok 3 49 r.1.length),(35000,.arr 1 5 r.2.length (fun i=>eU8 (r.2.getD i 0)))]:=by
 refine A8 mix Try.func26 (fun Γ hq=>?_);unfold Bp at h;refine B3 hq [0,1,3,9,10] [30000,35000,37001] ?_;obtain⟨x10,hx10,h⟩:=bind_some h;refine gL hq hx10 [0,1,3,9,10] [30000,35000,37001] (fun u (i1,i2,i3,l4,l5)=>(Qk u [(1,(.int .u64 i1)),(3,(.int .u64 i2)),(10,(Hq i3))] (Z4 30000 35000 l5.length l4 37001 l5 l4.length))) (fun u (l6,l7)=>aG Γ (.exit 0) (⟨[],(Z4 30000 35000 l7.length l6 37001 l7 l6.length),[]⟩:St)) ?_ ?_
 ·rintro⟨i1,i2,i3,l4,l5⟩ y h;unfold A2 at h;refine B3 hq [0,1,3,9,10,11] [30000,35000,37001] ?_;refine gC h (fun h=>?_) (fun h=>?_)
  ·refine B3 hq [0,1,3,8,9,10] [30000,35000,37001] ?_;obtain⟨hc8,h⟩:=Af h;refine gR hq [0,1,3,8,9,10] [30000,35000,37001] [] [] (ci hc8 (c1 (Eq.refl l5.length))) ?_;refine U2 (Le.trans (V5 35000 (show ∀ k_,k_<l5.length→AVleL ((fun i_=>AV.eraseAll (fun n_=>Cf n_ [30000,35000,37001]) ((Is (fun i=>eU8 (l5.getD i 0)) i1.toNat 0 [(.int .u8 (Tx i2))]) i_)) k_) ((fun i=>eU8 ((l5.set i1.toNat (Tx i2)).getD i 0)) k_) from(Hw (List.length_set ..).symm (fun k_ hk_=>(congrArg (AV.eraseAll (fun n_=>Cf n_ [30000,35000,37001])) ((J4 (fun _ _=>rfl) (Lw hc8) rfl) k_ hk_)).trans rfl)))) (V6 (fun(k_:Nat) u=>(Qk u [] [(Z1 30000 35000 k_ l4 37001),(35000,.arr 1 5 k_ (fun i=>eU8 ((l5.set i1.toNat (Tx i2)).getD i 0)))])) (show l5.length=(l5.set i1.toNat (Tx i2)).length from(List.length_set ..).symm))) ?_;obtain⟨hc9,h⟩:=Af h;refine gR hq [0,1,3,9,10] [30000,35000,37001] (Ww (Q9 i1 i2) l4) [] (ci (G2 3 Aq (default:Aa) (Q9 i1 i2)) (ci (Eq.refl l4.length) (ci hc9 (ci (Lq 3 37001 Aq (default:Aa) l4 (Q9 i1 i2)) (c1 (Ly l4 (Q9 i1 i2))))))) ?_;refine gR hq [0,1,3,9,10] [30000,35000,37001] [] [] (c1 (show(0≤(8:Int)) from(by decide))) ?_;refine B3 hq [0,1,3,9,10] [30000,35000,37001] ?_;refine B3 hq [0,1,3,9,10] [30000,35000,37001] ?_;cases h;exact gN Su
  ·cases h;exact gO (Pn (Jp [] [30000,35000,37001] hq))
 ·clear hx10;rcases x10 with⟨l6,l7⟩;refine Wi (fun st' hl11=>?_);cases h;exact gK (e:=.normal) (N4 [(30000,30000),(37001,37001),(35000,35000)] hl11)
def A5(a9:List Int)(x3:Int):(Int×Int×List Aa×List Int)→Option (LR (Int×Int×List Aa×List Int) ((List Aa×List Int) ⊕ (List Aa×List Int))):=
 fun((i4,i5,l6,l7):(Int×Int×List Aa×List Int))=>(bif (decide (i5<(a9.length:Int))) then(C0 (E0 i5 a9.length) ((Ba i4 x3 l7 l6).bind fun x13=>(C0 (l7.length=x13.2.2.length) (bif (!x13.1) then(some (.done (.inr (x13.2.1,x13.2.2)))) else((Bp i4 x3 (a9.getD i5.toNat 0) x13.2.2 x13.2.1).bind fun x15=>(C0 (x13.2.2.length=x15.2.length) (some (.next ((Ek (i4+(Ek x3))),(Oo (i5+1)),x15.1,x15.2))))))))) else(some (.done (.inl (l6,l7)))))
def Dw :(List Aa×List Int)→Option (LR (List Aa×List Int) (Int×List Aa×List Int)):=
 fun(s_:(List Aa×List Int))=>match s_ with|(l1,l2)=>(some (.done ((8:Int),l1,l2)))
def Ir(Γ:Cy)(a6:Int)(a1:Int)(a9:List Int)(a0:List Int)(a2:List Aa)(r:(Int×List Aa×List Int)):Exit→St→Prop:=fK Try.prog Γ Try.f11.results.toList (Z3 a0.length a2 a2.length a0) (Hq r.1) (Z3 r.2.2.length r.2.1 r.2.1.length r.2.2)
def Bt(a6:Int)(a1:Int)(a9:List Int)(a0:List Int)(a2:List Aa):Option (Int×List Aa×List Int):=
 ((Ed (S:=(List Aa×List Int)) (X:=(Int×List Aa×List Int)) ((Cc a1).bind fun x3=>(bif (bif (x3==0) then true else(decide (((16:Int):Int)<(a9.length:Int)))) then(some (.done ((1:Int),a2,a0))) else((Ce (A5 a9 x3) (a6,(0:Int),a2,a0)).bind (fun x17=>(match x17 with|(.inl (l8,l9))=>(some (.done ((0:Int),l8,l9)))|(.inr (l10,l11))=>(some (.next (l10,l11)))))))) Dw).bind (fun x20=>(some x20)))
theorem Eh(a6:Int)(a1:Int)(a9:List Int)(a0:List Int)(a2:List Aa)(r:(Int×List Aa×List Int))(h:Bt a6 a1 a9 a0 a2=some r):Spec Try.prog 11 [(.ptr 30000 0),(.int .u64 a6),(.int .i64 a1),(AV.list 1 Cu 0 a9 .none)] [(30000,.row 63 [(.vsl 35000 a0.length),(AV.list 3 Aq default a2 (.own 37001))]),(37001,.tok 3 49 a2.length),(35000,.arr 1 5 a0.length (fun i=>eU8 (a0.getD i 0)))] (.int .i64 r.1) [(30000,.row 63 [(.vsl 35000 r.2.2.length),(AV.list 3 Aq default r.2.1 (.own 37001))]),(37001,.tok 3 49 r.2.1.length),(35000,.arr 1 5 r.2.2.length (fun i=>eU8 (r.2.2.getD i 0)))]:=by
 refine A8 mix Try.func11 (fun Γ hq=>?_);unfold Bt at h;refine B3 hq [0,1,2,3] [30000,35000,37001] ?_;obtain⟨x20,hx20,h⟩:=bind_some h;refine gS hx20 (fun(s_:(List Aa×List Int))=>match s_ with|(l1,l2)=>0) (fun(s_:(List Aa×List Int))=>match s_ with|(l1,l2)=>(⟨[],(Z4 30000 35000 l2.length l1 37001 l2 l1.length),[]⟩:St)) (fun r_=>aR (Ir Γ a6 a1 a9 a0 a2 r_)) ?_ ?_ ?_
 ·clear h hx20;intro y h;obtain⟨x3,hx3,h⟩:=bind_some h;refine gR hq [0,1,3,9] [30000,35000,37001] [] [⟨[],[],(Hq x3),[],[]⟩] (c1 (Fm a1 x3 hx3)) ?_;refine gR hq [0,1,3,9,20] [30000,35000,37001] [] [] (ci (gI ((x3==0)==false)) (ci (gI ((x3==0)==false)) (c1 (O3 (x3==0))))) ?_;refine gC h (fun h=>?_) (fun h=>?_)
  ·refine B3 hq [8] [30000,35000,37001] ?_;cases h;exact U1 (Sy (N4 [(30000,30000),(37001,37001),(35000,35000)] (Le.refl _ _)))
  ·refine B3 hq [0,1,9,21,22,23] [30000,35000,37001] ?_;obtain⟨x17,hx17,h⟩:=bind_some h;refine gL hq hx17 [0,1,9,21,22,23] [30000,35000,37001] (fun u (i4,i5,l6,l7)=>(Qk u [(1,(.int .u64 i4)),(23,(Hq i5))] (Z4 30000 35000 l7.length l6 37001 l7 l6.length))) (fun u x_=>match x_ with|(.inl (l8,l9))=>aG Γ (.exit 0) (⟨[],(Z4 30000 35000 l9.length l8 37001 l9 l8.length),[]⟩:St)|(.inr (l10,l11))=>aG Γ (.goto 0) (⟨[],(Z4 30000 35000 l11.length l10 37001 l11 l10.length),[]⟩:St)) ?_ ?_
   ·rintro⟨i4,i5,l6,l7⟩ y h;unfold A5 at h;refine B3 hq [0,1,9,21,22,23,24] [30000,35000,37001] ?_;refine gC h (fun h=>?_) (fun h=>?_)
    ·obtain⟨hc12,h⟩:=Af h;refine gR hq [0,1,9,11,21,22,23] [30000,35000,37001] [] [] (c1 hc12) ?_;obtain⟨x13,hx13,h⟩:=bind_some h;obtain⟨hc14,h⟩:=Af h;refine gR hq [0,1,9,11,21,22,23,31] [30000,35000,37001] [] [⟨[(30000,30000),(37001,37001),(35000,35000)],[],(.bool x13.1),(Z3 x13.2.2.length x13.2.1 x13.2.1.length x13.2.2),[]⟩] (c1 (B0 i4 x3 l7 l6 x13 hx13)) ?_;refine gC h (fun h=>?_) (fun h=>?_)
     ·cases h;exact gO (Pn (Jp [] [30000,35000,37001] hq))
     ·obtain⟨x15,hx15,h⟩:=bind_some h;obtain⟨hc16,h⟩:=Af h;refine gR hq [0,1,9,21,22,23] [30000,35000,37001] [] [⟨[(30000,30000),(37001,37001),(35000,35000)],[],(.tuple []),(Z3 x15.2.length x15.1 x15.1.length x15.2),[]⟩] (c1 (Gd i4 x3 (a9.getD i5.toNat 0) x13.2.2 x13.2.1 x15 hx15)) ?_;refine B3 hq [0,1,9,21,22,23] [30000,35000,37001] ?_;refine B3 hq [0,1,9,21,22,23] [30000,35000,37001] ?_;cases h;exact gN Su
    ·cases h;exact gO (Pn (Jp [] [30000,35000,37001] hq))
   ·clear hx17;rcases x17 with⟨l8,l9⟩|⟨l10,l11⟩
    ·refine gA ?_;refine B3 hq [8] [30000,35000,37001] ?_;cases h;exact U1 (Sy (N4 [(30000,30000),(37001,37001),(35000,35000)] (Le.refl _ _)))
    ·refine Wi (fun st' hl19=>?_);cases h;exact W1 (Le.trans hl19 Su)
 ·clear h hx20;rintro⟨l1,l2⟩ y h;unfold Dw at h;refine B3 hq [8] [30000,35000,37001] ?_;cases h;exact U1 (Sy (N4 [(30000,30000),(37001,37001),(35000,35000)] (Le.refl _ _)))
 ·clear hx20;refine Vf (fun st' hk=>?_);obtain rfl:=OI h;exact gK hk
def A7(a8:Int)(a0:List Int):(Int×Int×Int×List Aa)→Option (LR (Int×Int×Int×List Aa) (Int×List Aa)):=
 fun((i1,i2,i3,l4):(Int×Int×Int×List Aa))=>(bif (decide (i3<a8)) then(C0 (E0 i1 a0.length) (C0 (l4.length+([(⟨false,i1,(a0.getD i1.toNat 0)⟩:Aa)]:List Aa).length≤room) (C0 (0≤(Oo ((8:Int)*i3))) (some (.next ((Ek (i1+1)),(E2 .or .u64 i2 (Ho .u64 (Ek (a0.getD i1.toNat 0)) (Oo ((8:Int)*i3)))),(Oo (i3+1)),(l4++([(⟨false,i1,(a0.getD i1.toNat 0)⟩:Aa)]:List Aa)))))))) else(some (.done (i2,l4))))
def V0(i1:Int)(a0:List Int):=([(⟨false,i1,(a0.getD i1.toNat 0)⟩:Aa)]:List Aa)
def Bv(a6:Int)(a8:Int)(a0:List Int)(a2:List Aa):Option (Int×List Aa×List Int):=
 ((Ce (A7 a8 a0) (a6,(0:Int),(0:Int),a2)).bind (fun(i5,l6)=>(some (i5,l6,a0))))
theorem Gw(a6:Int)(a8:Int)(a0:List Int)(a2:List Aa)(r:(Int×List Aa×List Int))(h:Bv a6 a8 a0 a2=some r):Spec Try.prog 28 [(.ptr 30000 0),(.int .u64 a6),(.int .i64 a8)] [(30000,.row 63 [(.vsl 35000 a0.length),(AV.list 3 Aq default a2 (.own 37001))]),(37001,.tok 3 49 a2.length),(35000,.arr 1 5 a0.length (fun i=>eU8 (a0.getD i 0)))] (.int .u64 r.1) [(30000,.row 63 [(.vsl 35000 r.2.2.length),(AV.list 3 Aq default r.2.1 (.own 37001))]),(37001,.tok 3 49 r.2.1.length),(35000,.arr 1 5 r.2.2.length (fun i=>eU8 (r.2.2.getD i 0)))]:=by
 refine A8 mix Try.func28 (fun Γ hq=>?_);unfold Bv at h;refine B3 hq [0,1,2] [30000,35000,37001] ?_;refine B3 hq [0,1,2,7] [30000,35000,37001] ?_;refine B3 hq [0,1,7,10,11] [30000,35000,37001] ?_;obtain⟨x10,hx10,h⟩:=bind_some h;refine gL hq hx10 [0,1,7,10,11] [30000,35000,37001] (fun u (i1,i2,i3,l4)=>(Qk u [(1,(.int .u64 i1)),(7,(.int .u64 i2)),(11,(Hq i3))] [(Z1 30000 35000 a0.length l4 37001),(37001,.tok 3 49 l4.length)])) (fun u (i5,l6)=>aG Γ (.exit 0) (W4 [7] [30000,35000,37001] u [(7,(.int .u64 i5))] [(Z1 30000 35000 a0.length l6 37001),(37001,.tok 3 49 l6.length)])) ?_ ?_
 ·rintro⟨i1,i2,i3,l4⟩ y h;unfold A7 at h;refine B3 hq [0,1,7,10,11,12] [30000,35000,37001] ?_;refine gC h (fun h=>?_) (fun h=>?_)
  ·refine B3 hq [0,1,7,8,10,11] [30000,35000,37001] ?_;obtain⟨hc7,h⟩:=Af h;refine gR hq [0,1,7,8,9,10,11] [30000,35000,37001] [] [] (ci hc7 (c1 (Eq.refl a0.length))) ?_;obtain⟨hc8,h⟩:=Af h;refine gR hq [0,1,7,8,9,10,11] [30000,35000,37001] (Ww (V0 i1 a0) l4) [] (ci (G2 3 Aq (default:Aa) (V0 i1 a0)) (ci (Eq.refl l4.length) (ci hc8 (ci (Lq 3 37001 Aq (default:Aa) l4 (V0 i1 a0)) (c1 (Ly l4 (V0 i1 a0))))))) ?_;obtain⟨hc9,h⟩:=Af h;refine gR hq [0,1,7,10,11] [30000,35000,37001] [] [] (c1 hc9) ?_;refine B3 hq [0,1,7,10,11] [30000,35000,37001] ?_;refine B3 hq [0,1,7,10,11] [30000,35000,37001] ?_;cases h;exact gN Su
  ·cases h;exact gO (Pn (Jp [7] [30000,35000,37001] hq))
 ·clear hx10;rcases x10 with⟨i5,l6⟩;refine gA ?_;refine B3 hq [6] [30000,35000,37001] ?_;cases h;exact Gz [(30000,30000),(37001,37001),(35000,35000)]
def A9(a3:Int)(x3:Int):(Int×Int×List Int×List Aa×List Int)→Option (LR (Int×Int×List Int×List Aa×List Int) ((List Int×List Aa×List Int) ⊕ (List Aa×List Int))):=
 fun((i5,i6,l7,l8,l9):(Int×Int×List Int×List Aa×List Int))=>(bif (decide (i6<((List.replicate a3.toNat (0:Int)).length:Int))) then((Ba i5 x3 l9 l8).bind fun x15=>(C0 (l9.length=x15.2.2.length) (bif (!x15.1) then(some (.done (.inr (x15.2.1,x15.2.2)))) else((Bv i5 x3 x15.2.2 x15.2.1).bind fun x17=>(C0 (x15.2.2.length=x17.2.2.length) (C0 (E0 i6 l7.length) (some (.next ((Ek (i5+(Ek x3))),(Oo (i6+1)),(l7.set i6.toNat x17.1),x17.2.1,x17.2.2))))))))) else(some (.done (.inl (l7,l8,l9)))))
def D8 :(List Aa×List Int)→Option (LR (List Aa×List Int) (List Int×Int×List Aa×List Int)):=
 fun(s_:(List Aa×List Int))=>match s_ with|(l1,l2)=>(some (.done (([]:List Int),(8:Int),l1,l2)))
def I7(Γ:Cy)(a6:Int)(a1:Int)(a3:Int)(a0:List Int)(a2:List Aa)(r:(List Int×Int×List Aa×List Int)):Exit→St→Prop:=fK Try.prog Γ Try.f13.results.toList (Z3 a0.length a2 a2.length a0) (.tuple [(AV.list 1 Cu 0 r.1 (.own 20000)),(Hq r.2.1)]) [(Z1 30000 35000 r.2.2.2.length r.2.2.1 37001),(37001,.tok 3 49 r.2.2.1.length),(Z2 35000 r.2.2.2),(20000,.tok 1 33 r.1.length)]
def Ut:AV:=(AV.list 1 Cu 0 ([]:List Int) .exact)
def V9(l2:List Int)(l1:List Aa):List (Nat×Own):=(Z4 30000 35000 l2.length l1 37001 l2 l1.length)
def Wq(l10:List Int)(l12:List Int)(l11:List Aa):List (Nat×Own):=[(26,.arr 1 33 l10.length (fun i=>Cu (l10.getD i 0))),(Z1 30000 35000 l12.length l11 37001),(Z2 35000 l12),(37001,.tok 3 49 l11.length)]
def Wp(a0:List Int)(a2:List Aa):=(⟨[(8,Ut),(9,(.int .i64 (1:Int)))],(Z4 30000 35000 a0.length a2 37001 a0 a2.length),[]⟩:St)
def Wo(l2:List Int)(l1:List Aa):=(⟨[(8,(AV.list 1 Cu 0 ([]:List Int) (.own 6008))),(9,(.int .i64 (8:Int)))],[(6008,.tok 1 33 (([]:List Int).length)),(Z1 30000 35000 l2.length l1 37001),(Z2 35000 l2),(37001,.tok 3 49 l1.length)],[]⟩:St)
def Wn(a0:List Int)(a2:List Aa):=(⟨[(8,(AV.list 1 Cu 0 ([]:List Int) (.own 6008))),(9,(.int .i64 (1:Int)))],[(6008,.tok 1 33 (([]:List Int).length)),(Z1 30000 35000 a0.length a2 37001),(Z2 35000 a0),(37001,.tok 3 49 a2.length)],[]⟩:St)
def Bo(a6:Int)(a1:Int)(a3:Int)(a0:List Int)(a2:List Aa):Option (List Int×Int×List Aa×List Int):=
 ((Ed (S:=(List Aa×List Int)) (X:=(List Int×Int×List Aa×List Int)) ((Cc a1).bind fun x3=>(bif (bif (bif (x3==0) then true else(decide (a3<0))) then true else(decide (((16:Int):Int)<a3))) then(some (.done (([]:List Int),(1:Int),a2,a0))) else(C0 (0≤a3∧a3≤a3∧a3≤(room:Int)) ((Ce (A9 a3 x3) (a6,(0:Int),(List.replicate a3.toNat (0:Int)),a2,a0)).bind (fun x20=>(match x20 with|(.inl (l10,l11,l12))=>(some (.done (l10,(0:Int),l11,l12)))|(.inr (l13,l14))=>(some (.next (l13,l14))))))))) D8).bind (fun x23=>(some x23)))
theorem Dg(a6:Int)(a1:Int)(a3:Int)(a0:List Int)(a2:List Aa)(r:(List Int×Int×List Aa×List Int))(h:Bo a6 a1 a3 a0 a2=some r):Spec Try.prog 13 [(.ptr 30000 0),(.int .u64 a6),(.int .i64 a1),(.int .i64 a3)] [(30000,.row 63 [(.vsl 35000 a0.length),(AV.list 3 Aq default a2 (.own 37001))]),(37001,.tok 3 49 a2.length),(35000,.arr 1 5 a0.length (fun i=>eU8 (a0.getD i 0)))] (.tuple [(AV.list 1 Cu 0 r.1 (.own 20000)),(.int .i64 r.2.1)]) [(30000,.row 63 [(.vsl 35000 r.2.2.2.length),(AV.list 3 Aq default r.2.2.1 (.own 37001))]),(37001,.tok 3 49 r.2.2.1.length),(35000,.arr 1 5 r.2.2.2.length (fun i=>eU8 (r.2.2.2.getD i 0))),(20000,.tok 1 33 r.1.length)]:=by
 refine A8 mix Try.func13 (fun Γ hq=>?_);have hΓ:=hq.own;unfold Bo at h;refine gR hq [0,1,2,3] [30000,35000,37001] [(8,Ut)] [] (c1 (Dk 1 Cu (0:Int))) ?_;obtain⟨x23,hx23,h⟩:=bind_some h;refine gS hx23 (fun(s_:(List Aa×List Int))=>match s_ with|(l1,l2)=>0) (fun(s_:(List Aa×List Int))=>match s_ with|(l1,l2)=>(⟨[],(V9 l2 l1),[]⟩:St)) (fun r_=>aR (I7 Γ a6 a1 a3 a0 a2 r_)) ?_ ?_ ?_
 ·clear h hx23;intro y h;obtain⟨x3,hx3,h⟩:=bind_some h;refine gR hq [0,1,3,10] [30000,35000,37001] [] [⟨[],[],(Hq x3),[],[]⟩] (c1 (Fm a1 x3 hx3)) ?_;refine gR hq [0,1,3,10,24] [30000,35000,37001] [] [] (ci (gI ((x3==0)==false)) (ci (O3 (x3==0)) (ci (gI ((bif (x3==0) then true else(decide (a3<0)))==false)) (c1 (O3 (bif (x3==0) then true else(decide (a3<0)))))))) ?_;refine gC h (fun h=>?_) (fun h=>?_)
  ·refine gR hq [8,9] [30000,35000,37001] [(8,Ut)] [] (c1 (Dk 1 Cu (0:Int))) ?_;refine T8 (Wp a0 a2) ?_;cases h;exact U1 (Sy (N4 [(30000,30000),(37001,37001),(35000,35000),(6008,20000)] (show Le Γ _ (Wn a0 a2) from Le.trans (Jp (st':=(Wp a0 a2)) [8,9] [30000,35000,37001] hq) (Le.trans (N7 (t:=8) (nm:=6008) (sz':=1) (fun i=>Cu (([]:List Int).getD i 0)) 33 rfl rfl (.inl ⟨rfl,rfl⟩) (fun h_=>absurd h_ (by decide))) (Jp (st':=(Wn a0 a2)) [8,9] [6008,30000,35000,37001] hq)))))
  ·obtain⟨hc4,h⟩:=Af h;refine gR hq [0,1,10,11] [26,30000,35000,37001] [] [] (c1 hc4) ?_;refine U2 (Le.trans (V5 26 (show ∀ k_,k_<(a3.toNat)→AVleL ((fun i_=>AV.eraseAll (fun n_=>Cf n_ [26,30000,35000,37001]) ((fun _=>[(.int .u64 (0:Int))]) i_)) k_) ((fun i=>Cu ((List.replicate a3.toNat (0:Int)).getD i 0)) k_) from(fun k hk=>Td (e:=Cu) (d:=(0:Int)) (.cons (AVle.refl _) .nil) _ k (Tq hk)))) (V6 (fun(k_:Nat) u=>(Qk u [(11,(.vsl 26 k_))] [(26,.arr 1 33 k_ (fun i=>Cu ((List.replicate a3.toNat (0:Int)).getD i 0)))])) (show a3.toNat=(List.replicate a3.toNat (0:Int)).length from(List.length_replicate ..).symm))) ?_;refine B3 hq [0,1,10,11,28,29] [26,30000,35000,37001] ?_;obtain⟨x20,hx20,h⟩:=bind_some h;refine gL hq hx20 [0,1,10,11,28,29] [26,30000,35000,37001] (fun u (i5,i6,l7,l8,l9)=>(Qk u [(1,(.int .u64 i5)),(11,(.vsl 26 l7.length)),(29,(Hq i6))] [(26,.arr 1 33 l7.length (fun i=>Cu (l7.getD i 0))),(Z1 30000 35000 l9.length l8 37001),(Z2 35000 l9),(37001,.tok 3 49 l8.length)])) (fun u x_=>match x_ with|(.inl (l10,l11,l12))=>aG Γ (.exit 0) (⟨[(11,(.vsl 26 l10.length))],(Wq l10 l12 l11),[]⟩:St)|(.inr (l13,l14))=>aG Γ (.goto 0) (⟨[],(Z4 30000 35000 l14.length l13 37001 l14 l13.length),[]⟩:St)) ?_ ?_
   ·rintro⟨i5,i6,l7,l8,l9⟩ y h;unfold A9 at h;refine B3 hq [0,1,10,11,28,29,30] [26,30000,35000,37001] ?_;refine gC h (fun h=>?_) (fun h=>?_)
    ·refine B3 hq [0,1,10,11,12,28,29] [26,30000,35000,37001] ?_;obtain⟨x15,hx15,h⟩:=bind_some h;obtain⟨hc16,h⟩:=Af h;refine gR hq [0,1,10,11,12,28,29,36] [26,30000,35000,37001] [] [⟨[(30000,30000),(37001,37001),(35000,35000)],[],(.bool x15.1),(Z3 x15.2.2.length x15.2.1 x15.2.1.length x15.2.2),[]⟩] (c1 (B0 i5 x3 l9 l8 x15 hx15)) ?_;refine gC h (fun h=>?_) (fun h=>?_)
     ·cases h;exact gO (Pn (Jp [] [30000,35000,37001] hq))
     ·obtain⟨x17,hx17,h⟩:=bind_some h;obtain⟨hc18,h⟩:=Af h;obtain⟨hc19,h⟩:=Af h;refine gR hq [0,1,10,11,28,29] [26,30000,35000,37001] [] [⟨[(30000,30000),(37001,37001),(35000,35000)],[],(.int .u64 x17.1),(Z3 x17.2.2.length x17.2.1 x17.2.1.length x17.2.2),[]⟩] (ci (Gw i5 x3 x15.2.2 x15.2.1 x17 hx17) (ci hc19 (c1 (Eq.refl l7.length)))) ?_;refine U2 (Le.trans (V5 26 (show ∀ k_,k_<l7.length→AVleL ((fun i_=>AV.eraseAll (fun n_=>Cf n_ [26,30000,35000,37001]) ((Is (fun i=>Cu (l7.getD i 0)) i6.toNat 0 [(.int .u64 x17.1)]) i_)) k_) ((fun i=>Cu ((l7.set i6.toNat x17.1).getD i 0)) k_) from(Hw (List.length_set ..).symm (fun k_ hk_=>(congrArg (AV.eraseAll (fun n_=>Cf n_ [26,30000,35000,37001])) ((J4 (fun _ _=>rfl) (Lw hc19) rfl) k_ hk_)).trans rfl)))) (V6 (fun(k_:Nat) u=>(Qk u [(11,(.vsl 26 k_))] [(26,.arr 1 33 k_ (fun i=>Cu ((l7.set i6.toNat x17.1).getD i 0)))])) (show l7.length=(l7.set i6.toNat x17.1).length from(List.length_set ..).symm))) ?_;refine B3 hq [0,1,10,11,28,29] [26,30000,35000,37001] ?_;refine B3 hq [0,1,10,11,28,29] [26,30000,35000,37001] ?_;cases h;exact gN Su
    ·cases h;exact gO (Pn (Jp [11] [26,30000,35000,37001] hq))
   ·clear hx20;rcases x20 with⟨l10,l11,l12⟩|⟨l13,l14⟩
    ·refine gA ?_;refine B3 hq [8,9] [26,30000,35000,37001] ?_;refine T8 (⟨[(8,(.vsl 26 l10.length)),(9,(.int .i64 (0:Int)))],(Wq l10 l12 l11),[]⟩:St) ?_;cases h;exact U1 (Sy (N4 [(30000,30000),(37001,37001),(35000,35000),(26,20000)] (Le.trans (Hx (nm:=26) (sz:=1) (n:=l10.length) (e:=33) (f:=(fun i=>Cu (l10.getD i 0))) (g:=(fun i=>Cu (l10.getD i 0))) rfl ⟨rfl,trivial⟩ (fun _ _=>rfl) (by rw[hΓ];rfl)) (Rv (st':=⟨[(8,(AV.list 1 Cu 0 l10 (.own 26))),(9,(.int .i64 (0:Int)))],[(26,.tok 1 33 l10.length),(Z1 30000 35000 l12.length l11 37001),(Z2 35000 l12),(37001,.tok 3 49 l11.length)],[]⟩) (by kernel_rfl)))))
    ·refine Wi (fun st' hl22=>?_);cases h;exact W1 (Le.trans hl22 Su)
 ·clear h hx23;rintro⟨l1,l2⟩ y h;unfold D8 at h;refine gR hq [8,9] [30000,35000,37001] [(8,Ut)] [] (c1 (Dk 1 Cu (0:Int))) ?_;refine T8 (⟨[(8,Ut),(9,(.int .i64 (8:Int)))],(V9 l2 l1),[]⟩:St) ?_;cases h;exact U1 (Sy (N4 [(30000,30000),(37001,37001),(35000,35000),(6008,20000)] (show Le Γ _ (Wo l2 l1) from Le.trans (Jp (st':=⟨[(8,Ut),(9,(.int .i64 (8:Int)))],(V9 l2 l1),[]⟩) [8,9] [30000,35000,37001] hq) (Le.trans (N7 (t:=8) (nm:=6008) (sz':=1) (fun i=>Cu (([]:List Int).getD i 0)) 33 rfl rfl (.inl ⟨rfl,rfl⟩) (fun h_=>absurd h_ (by decide))) (Jp (st':=(Wo l2 l1)) [8,9] [6008,30000,35000,37001] hq)))))
 ·clear hx23;refine Vf (fun st' hk=>?_);obtain rfl:=OI h;exact gK hk
def U6(x1:List Int):=(fun i=>eU8 (x1.getD i 0))
def Bs(a0:List Int)(a2:List Aa):Option (List Int×List Aa×List Int):=
 ((As a0).bind fun x1=>(some (x1,a2,a0)))
theorem Eg(a0:List Int)(a2:List Aa)(r:(List Int×List Aa×List Int))(h:Bs a0 a2=some r):Spec Try.prog 19 [(.ptr 30000 0)] [(30000,.row 63 [(.vsl 35000 a0.length),(AV.list 3 Aq default a2 (.own 37001))]),(37001,.tok 3 49 a2.length),(35000,.arr 1 5 a0.length (fun i=>eU8 (a0.getD i 0)))] (AV.list 1 eU8 0 r.1 (.own 20000)) [(30000,.row 63 [(.vsl 35000 r.2.2.length),(AV.list 3 Aq default r.2.1 (.own 37001))]),(37001,.tok 3 49 r.2.1.length),(35000,.arr 1 5 r.2.2.length (fun i=>eU8 (r.2.2.getD i 0))),(20000,.tok 1 5 r.1.length)]:=by
 refine A8 mix Try.func19 (fun Γ hq=>?_);have hΓ:=hq.own;unfold Bs at h;refine gR hq [0] [30000,35000,37001] [(2,V3)] [] (c1 (Dk 1 eU8 (0:Int))) ?_;refine B3 hq [0,4] [30000,35000,37001] ?_;refine Vg false ?_;obtain⟨x1,hx1,h⟩:=bind_some h;refine gR hq [2] [9,30000,35000,37001] [] [⟨[],[(20000,9)],(.vsl 20000 x1.length),[(20000,.arr 1 5 x1.length (U6 x1))],[35000]⟩] (ci (B8 a0 x1 hx1) (ci (show(K4 [(20000,.arr 1 5 x1.length (U6 x1))]) from⟨(fun _ _=>rfl),trivial⟩) (c1 (Eq.refl a0.length)))) ?_;refine T8 (⟨[(2,(.vsl 9 x1.length))],[(9,.arr 1 5 x1.length (U6 x1)),(Z1 30000 35000 a0.length a2 37001),(Z2 35000 a0),(37001,.tok 3 49 a2.length)],[]⟩:St) ?_;cases h;exact gK (e:=.ret) (N4 [(30000,30000),(37001,37001),(35000,35000),(9,20000)] (Le.trans (Hx (nm:=9) (sz:=1) (n:=x1.length) (e:=5) (f:=(U6 x1)) (g:=(U6 x1)) rfl ⟨rfl,trivial⟩ (fun _ _=>rfl) (by rw[hΓ];rfl)) (Rv (st':=⟨[(2,(AV.list 1 eU8 0 x1 (.own 9)))],[(9,.tok 1 5 x1.length),(Z1 30000 35000 a0.length a2 37001),(Z2 35000 a0),(37001,.tok 3 49 a2.length)],[]⟩) (by kernel_rfl))))
def Uu:AV:=Wd
def Wr:=(⟨[(2,(AV.list 3 Aq default ([]:List Aa) (.own 6002)))],[(6002,.tok 3 49 (([]:List Aa).length))],[]⟩:St)
def Au(a7:List Aa):Option (List Aa):=
 (C0 (([]:List Aa).length+a7.length≤room) (some (([]:List Aa)++a7)))
theorem Cn(a7:List Aa)(r:List Aa)(h:Au a7=some r):Spec Try.prog 29 [(AV.list 3 Aq default a7 .none)] [] (AV.list 3 Aq default r (.own 20000)) [(20000,.tok 3 49 r.length)]:=by
 refine A8 mix Try.func29 (fun Γ hq=>?_);unfold Au at h;refine gR hq [0] [] [(2,Uu)] [] (c1 (Dk 3 Aq (default:Aa))) ?_;refine B3 hq [0,4] [] ?_;refine Vh true a7.length (fun hb=>?_) (fun hb=>?_)
 ·replace h:=R0 (some ([]:List Aa)) (fun(l2:List Aa)=>(C0 (([]:List Aa).length+l2.length≤room) (some (([]:List Aa)++l2)))) h (hb rfl) rfl (fun h0=>by first|exact h0|simpa [C0,room] using h0);clear hb;refine gR hq [2] [] [(2,Uu)] [] (c1 (Dk 3 Aq (default:Aa))) ?_;refine T8 (⟨[(2,Uu)],[],[]⟩:St) ?_;cases h;exact gK (e:=.ret) (N4 [(6002,20000)] (show Le Γ _ Wr from Le.trans (Jp (st':=⟨[(2,Uu)],[],[]⟩) [2] [] hq) (Le.trans (N7 (t:=2) (nm:=6002) (sz':=3) (fun i=>Aq (([]:List Aa).getD i default)) 49 rfl rfl (.inl ⟨rfl,rfl⟩) (fun h_=>absurd h_ (by decide))) (Jp (st':=Wr) [2] [6002] hq))))
 ·clear hb;obtain⟨hc1,h⟩:=Af h;refine gR hq [2] [7] [(5,Uu),(7,(AV.list 3 Aq default (([]:List Aa)++a7) (.own 7)))] [] (ci (show(AVle (.slice 3 0 (fun i=>([]:List (List AV)).getD i []) .exact) Uu) from Lr rfl (fun i hi=>absurd hi (Nat.not_lt_zero i))) (ci hc1 (ci (show(49=Hp→([]:List Aa).length=0∨0<a7.length) from(fun h_=>absurd h_ (by decide))) (ci (Lq 3 7 Aq (default:Aa) ([]:List Aa) a7) (c1 (Ly ([]:List Aa) a7)))))) ?_;cases h;exact Gz [(7,20000)]
def Bh(a0:List Int)(a2:List Aa):Option (List Aa×List Aa×List Int):=
 ((Au a2).bind fun x1=>(some (x1,a2,a0)))
theorem B1(a0:List Int)(a2:List Aa)(r:(List Aa×List Aa×List Int))(h:Bh a0 a2=some r):Spec Try.prog 21 [(.ptr 30000 0)] [(30000,.row 63 [(.vsl 35000 a0.length),(AV.list 3 Aq default a2 (.own 37001))]),(37001,.tok 3 49 a2.length),(35000,.arr 1 5 a0.length (fun i=>eU8 (a0.getD i 0)))] (AV.list 3 Aq default r.1 (.own 20000)) [(30000,.row 63 [(.vsl 35000 r.2.2.length),(AV.list 3 Aq default r.2.1 (.own 37001))]),(37001,.tok 3 49 r.2.1.length),(35000,.arr 1 5 r.2.2.length (fun i=>eU8 (r.2.2.getD i 0))),(20000,.tok 3 49 r.1.length)]:=by
 refine A8 mix Try.func21 (fun Γ hq=>?_);unfold Bh at h;refine gR hq [0] [30000,35000,37001] [(2,Wd)] [] (c1 (Dk 3 Aq (default:Aa))) ?_;refine B3 hq [0,4] [30000,35000,37001] ?_;refine Vg false ?_;obtain⟨x1,hx1,h⟩:=bind_some h;refine gR hq [2] [9,30000,35000,37001] [] [⟨[],[(20000,9)],(Z7 x1),[(20000,.tok 3 49 x1.length)],[]⟩] (c1 (Cn a2 x1 hx1)) ?_;cases h;exact Gz [(30000,30000),(37001,37001),(35000,35000),(9,20000)]
def Ux(x5:(List Int×Int×List Aa×List Int)):=(x5.2.1==0)
def T2(x3:(Int×List Aa×List Int)):=((x3.1==0)==true)
def W5(x5:(List Int×Int×List Aa×List Int)):=(((x5.1.length:Int):Int)==1)
def Qp(x3:(Int×List Aa×List Int))(x9:(List Int×List Aa×List Int)):=(bif (x3.1==0) then(((x9.1.length:Int):Int)==4) else false)
def Uz(x9:(List Int×List Aa×List Int)):=(((x9.1.getD (2:Int).toNat (0:Int)):Int)==2)
def Ou(x3:(Int×List Aa×List Int))(x9:(List Int×List Aa×List Int)):=(bif (bif (Qp x3 x9) then(Uz x9) else false) then(((x9.1.getD (3:Int).toNat (0:Int)):Int)==1) else false)
def Mf(x3:(Int×List Aa×List Int))(x9:(List Int×List Aa×List Int))(x5:(List Int×Int×List Aa×List Int)):=(bif (bif (Ou x3 x9) then(Ux x5) else false) then(W5 x5) else false)
def W6(x5:(List Int×Int×List Aa×List Int)):=(((x5.1.getD (0:Int).toNat (0:Int)):Int)==16910601)
def Qi(x3:(Int×List Aa×List Int))(x9:(List Int×List Aa×List Int))(x5:(List Int×Int×List Aa×List Int)):=(bif (Mf x3 x9 x5) then(W6 x5) else false)
def T1(x3:(Int×List Aa×List Int))(x9:(List Int×List Aa×List Int))(x5:(List Int×Int×List Aa×List Int)):=((bif (Ou x3 x9) then(Ux x5) else false)==true)
def Uy(x15:(List Aa×List Aa×List Int)):AV:=(Z7 x15.1)
def Sq:=([(9:Int),(9:Int),(9:Int),(9:Int)]:List Int)
def Qh(x3:(Int×List Aa×List Int))(x9:(List Int×List Aa×List Int)):=((Qp x3 x9)==true)
def Qg(x3:(Int×List Aa×List Int))(x9:(List Int×List Aa×List Int)):=((bif (Qp x3 x9) then(Uz x9) else false)==true)
def Wa(x9:(List Int×List Aa×List Int)):List (Nat×Own):=(Z3 x9.2.2.length x9.2.1 x9.2.1.length x9.2.2)
def U7(x18:(Bool×List Aa×List Int)):List (Nat×Own):=(Z3 x18.2.2.length x18.2.1 x18.2.1.length x18.2.2)
def Ws(x15:(List Aa×List Aa×List Int)):List (Nat×Own):=(Z3 x15.2.2.length x15.2.1 x15.2.1.length x15.2.2)
def Wt(x21:(Bool×List Aa×List Int)):List (Nat×Own):=(Z3 x21.2.2.length x21.2.1 x21.2.1.length x21.2.2)
def Uw(x1:((Bool×Ku)×Int)):List (Nat×Own):=(Z4 20000 21000 x1.1.2.bytes.length x1.1.2.trace 21001 x1.1.2.bytes x1.1.2.trace.length)
def Uv(x15:(List Aa×List Aa×List Int)):List (Nat×Own):=(Wc x15.2.2.length x15.2.1 x15.2.1.length x15.2.2 x15.1.length)
def m_locksteplaw12_awake :Option Bool:=
 ((Ct ([(9:Int),(9:Int),(9:Int),(9:Int)]:List Int)).bind fun x1=>(bif x1.1.1 then(bif (x1.2 !=0) then(some false) else((Bt (2:Int) (16:Int) ([(258:Int)]:List Int) x1.1.2.bytes x1.1.2.trace).bind fun x3=>(C0 (x1.1.2.bytes.length=x3.2.2.length) ((Bo (0:Int) (32:Int) (1:Int) x3.2.2 x3.2.1).bind fun x5=>(C0 (x3.2.2.length=x5.2.2.2.length) ((Bo (1:Int) (32:Int) (1:Int) x5.2.2.2 x5.2.2.1).bind fun x7=>(C0 (x5.2.2.2.length=x7.2.2.2.length) ((Bs x7.2.2.2 x7.2.2.1).bind fun x9=>(C0 (x7.2.2.2.length=x9.2.2.length) (C0 (((bif (x3.1==0) then(((x9.1.length:Int):Int)==4) else false)==true)=true→(E0 (2:Int) x9.1.length)) (C0 (((bif (bif (x3.1==0) then(((x9.1.length:Int):Int)==4) else false) then(((x9.1.getD (2:Int).toNat (0:Int)):Int)==2) else false)==true)=true→(E0 (3:Int) x9.1.length)) (C0 (((bif (bif (bif (bif (bif (x3.1==0) then(((x9.1.length:Int):Int)==4) else false) then(((x9.1.getD (2:Int).toNat (0:Int)):Int)==2) else false) then(((x9.1.getD (3:Int).toNat (0:Int)):Int)==1) else false) then(x5.2.1==0) else false) then(((x5.1.length:Int):Int)==1) else false)==true)=true→(E0 (0:Int) x5.1.length)) (bif (bif (bif (bif (bif (bif (bif (bif (x3.1==0) then(((x9.1.length:Int):Int)==4) else false) then(((x9.1.getD (2:Int).toNat (0:Int)):Int)==2) else false) then(((x9.1.getD (3:Int).toNat (0:Int)):Int)==1) else false) then(x5.2.1==0) else false) then(((x5.1.length:Int):Int)==1) else false) then(((x5.1.getD (0:Int).toNat (0:Int)):Int)==16910601) else false) then(x7.2.1==8) else false) then((Bh x9.2.2 x9.2.1).bind fun x15=>(C0 (x9.2.2.length=x15.2.2.length) (bif (((x15.1.length:Int):Int)==6) then((Ba (3:Int) (1:Int) x15.2.2 x15.2.1).bind fun x18=>(C0 (x15.2.2.length=x18.2.2.length) (bif x18.1 then((Ba (3:Int) (2:Int) x18.2.2 x18.2.1).bind fun x21=>(C0 (x18.2.2.length=x21.2.2.length) (some (!x21.1)))) else(some false)))) else(some false)))) else(some false)))))))))))))) else(some false)))
theorem Ew  (r:Bool) (h:m_locksteplaw12_awake=some r):Spec Try.prog 9 [] [] (.bool r) []:=by
 refine A8 mix Try.func9 (fun Γ hq=>?_);unfold m_locksteplaw12_awake at h;refine B3 hq [] [] ?_;obtain⟨x1,hx1,h⟩:=bind_some h;refine gB h (fun hs2 h=>?_) (fun hs2 h=>?_)
 ·refine gR hq [1,2] [11,60011000,60011001] [(10,(AV.list 1 eU8 0 Sq .exact))] [(Wy 11 60011000 60011001 x1.2 (Uw x1))] (ci (G2 1 eU8 (0:Int) Sq) (c1 (show(Spec Try.prog 10 (T3 Sq) [] (.tuple [(bif true then((.ptr 20000 0):AV) else .nilp),(Hq x1.2)]) (bif true then(Uw x1) else[])) from(V4 (fun b_:Bool=>Spec Try.prog 10 (T3 Sq) [] (.tuple [(bif b_ then((.ptr 20000 0):AV) else .nilp),(Hq x1.2)]) (bif b_ then(Uw x1) else[])) hs2 (Ex Sq x1 hx1))))) ?_;refine gR hq [1,19] [11,60011000,60011001] [] [] (ci (show((false==false)=true→(false==false)=true) from(fun _=>rfl)) (c1 (show(false=false→(false==false)=true) from(fun _=>rfl)))) ?_;refine gC h (fun h=>?_) (fun h=>?_)
  ·refine B3 hq [0] [] ?_;obtain rfl:=OI h;exact Gz []
  ·obtain⟨x3,hx3,h⟩:=bind_some h;obtain⟨hc4,h⟩:=Af h;refine gR hq [1,3] [11,60011000,60011001] [(21,(AV.list 1 Cu 0 ([(258:Int)]:List Int) .exact))] [⟨[(11,30000),(60011001,37001),(60011000,35000)],[],(Hq x3.1),(Z3 x3.2.2.length x3.2.1 x3.2.1.length x3.2.2),[]⟩] (ci (G2 1 Cu (0:Int) ([(258:Int)]:List Int)) (c1 (Eh (2:Int) (16:Int) ([(258:Int)]:List Int) x1.1.2.bytes x1.1.2.trace x3 hx3))) ?_;obtain⟨x5,hx5,h⟩:=bind_some h;obtain⟨hc6,h⟩:=Af h;refine gR hq [1,3,4,5] [11,25,60011000,60011001] [] [(Z8 11 60011001 60011000 25 x5.1 x5.2.1 x5.2.2.2.length x5.2.2.1 x5.2.2.1.length x5.2.2.2 x5.1.length)] (c1 (Dg (0:Int) (32:Int) (1:Int) x3.2.2 x3.2.1 x5 hx5)) ?_;obtain⟨x7,hx7,h⟩:=bind_some h;obtain⟨hc8,h⟩:=Af h;refine gR hq [1,3,4,5,7] [11,25,60011000,60011001] [] [(Z8 11 60011001 60011000 30 x7.1 x7.2.1 x7.2.2.2.length x7.2.2.1 x7.2.2.1.length x7.2.2.2 x7.1.length)] (c1 (Dg (1:Int) (32:Int) (1:Int) x5.2.2.2 x5.2.2.1 x7 hx7)) ?_;obtain⟨x9,hx9,h⟩:=bind_some h;obtain⟨hc10,h⟩:=Af h;refine gR hq [1,3,4,5,7,8] [11,25,34,60011000,60011001] [] [(Wx 11 60011001 60011000 34 x9.1 x9.2.2.length x9.2.1 x9.2.1.length x9.2.2 x9.1.length)] (c1 (Eg x7.2.2.2 x7.2.2.1 x9 hx9)) ?_;obtain⟨hc11,h⟩:=Af h;obtain⟨hc12,h⟩:=Af h;obtain⟨hc13,h⟩:=Af h;refine gB h (fun hs14 h=>?_) (fun hs14 h=>?_)
   ·obtain⟨x15,hx15,h⟩:=bind_some h;obtain⟨hc16,h⟩:=Af h;refine gB h (fun hs17 h=>?_) (fun hs17 h=>?_)
    ·obtain⟨x18,hx18,h⟩:=bind_some h;obtain⟨hc19,h⟩:=Af h;refine gB h (fun hs20 h=>?_) (fun hs20 h=>?_)
     ·obtain⟨x21,hx21,h⟩:=bind_some h;obtain⟨hc22,h⟩:=Af h;refine gR hq [0] [] [(73,(.bool true)),(79,(.bool true)),(83,(.bool true))] [(Z5 (Uy x15) (Uv x15)),(Z9 x18.1 (U7 x18)),(Z9 x21.1 (Wt x21))] (ci (gI (T2 x3)) (ci (gI (T2 x3)) (ci (Gt (x3.1==0)) (ci (gI (Qh x3 x9)) (ci hc11 (ci (gI (Qh x3 x9)) (ci (gI (Qh x3 x9)) (ci (Gt (Qp x3 x9)) (ci (gI (Qg x3 x9)) (ci hc12 (ci (gI (Qg x3 x9)) (ci (gI (Qg x3 x9)) (ci (Gt (bif (Qp x3 x9) then(Uz x9) else false)) (ci (gI ((Ou x3 x9)==true)) (ci (Gt (Ou x3 x9)) (ci (gI (T1 x3 x9 x5)) (ci (gI (T1 x3 x9 x5)) (ci (Gt (bif (Ou x3 x9) then(Ux x5) else false)) (ci (gI ((Mf x3 x9 x5)==true)) (ci hc13 (ci (gI ((Mf x3 x9 x5)==true)) (ci (gI ((Mf x3 x9 x5)==true)) (ci (Gt (Mf x3 x9 x5)) (ci (gI ((Qi x3 x9 x5)==true)) (ci (Gt (Qi x3 x9 x5)) (ci (show(AVle (.bool (bif (Qi x3 x9 x5) then(x7.2.1==8) else false)) (.bool true)) from(Dr hs14)) (ci (show((true==true)=true→(true==true)=true) from(fun _=>rfl)) (ci (show((true==true)=true→(Spec Try.prog 21 [(.ptr 30000 0)] (Wa x9) (Uy x15) (Uv x15))) from(fun _=>(B1 x9.2.2 x9.2.1 x15 hx15))) (ci (show((true==true)=true→(true==true)=true) from(fun _=>rfl)) (ci (show((true==true)=true→(true==true)=true) from(fun _=>rfl)) (ci (show(true=true→(true==true)=true) from(fun _=>rfl)) (ci (show(AVle (.bool (((x15.1.length:Int):Int)==6)) (.bool true)) from(Dr hs17)) (ci (show((true==true)=true→(true==true)=true) from(fun _=>rfl)) (ci (show((true==true)=true→(Spec Try.prog 16 [(.ptr 30000 0),T4,(.int .i64 (1:Int))] (Ws x15) (.bool x18.1) (U7 x18))) from(fun _=>(B0 (3:Int) (1:Int) x15.2.2 x15.2.1 x18 hx18))) (ci (show(true=true→(true==true)=true) from(fun _=>rfl)) (ci (show(AVle (.bool x18.1) (.bool true)) from(Dr hs20)) (ci (show((true==true)=true→(true==true)=true) from(fun _=>rfl)) (ci (show((true==true)=true→(Spec Try.prog 16 [(.ptr 30000 0),T4,(.int .i64 (2:Int))] (U7 x18) (.bool x21.1) (Wt x21))) from(fun _=>(B0 (3:Int) (2:Int) x18.2.2 x18.2.1 x21 hx21))) (ci (show((true==true)=true→(true==true)=true) from(fun _=>rfl)) (c1 (show(true=true→(true==true)=true) from(fun _=>rfl)))))))))))))))))))))))))))))))))))))))))) ?_;cases h;exact Gz []
     ·refine gR hq [0] [] [(73,(.bool true)),(79,(.bool true)),(83,(.bool false))] [(Z5 (Uy x15) (Uv x15)),(Z9 x18.1 (U7 x18)),U9] (ci (gI (T2 x3)) (ci (gI (T2 x3)) (ci (Gt (x3.1==0)) (ci (gI (Qh x3 x9)) (ci hc11 (ci (gI (Qh x3 x9)) (ci (gI (Qh x3 x9)) (ci (Gt (Qp x3 x9)) (ci (gI (Qg x3 x9)) (ci hc12 (ci (gI (Qg x3 x9)) (ci (gI (Qg x3 x9)) (ci (Gt (bif (Qp x3 x9) then(Uz x9) else false)) (ci (gI ((Ou x3 x9)==true)) (ci (Gt (Ou x3 x9)) (ci (gI (T1 x3 x9 x5)) (ci (gI (T1 x3 x9 x5)) (ci (Gt (bif (Ou x3 x9) then(Ux x5) else false)) (ci (gI ((Mf x3 x9 x5)==true)) (ci hc13 (ci (gI ((Mf x3 x9 x5)==true)) (ci (gI ((Mf x3 x9 x5)==true)) (ci (Gt (Mf x3 x9 x5)) (ci (gI ((Qi x3 x9 x5)==true)) (ci (Gt (Qi x3 x9 x5)) (ci (show(AVle (.bool (bif (Qi x3 x9 x5) then(x7.2.1==8) else false)) (.bool true)) from(Dr hs14)) (ci (show((true==true)=true→(true==true)=true) from(fun _=>rfl)) (ci (show((true==true)=true→(Spec Try.prog 21 [(.ptr 30000 0)] (Wa x9) (Uy x15) (Uv x15))) from(fun _=>(B1 x9.2.2 x9.2.1 x15 hx15))) (ci (show((true==true)=true→(true==true)=true) from(fun _=>rfl)) (ci (show((true==true)=true→(true==true)=true) from(fun _=>rfl)) (ci (show(true=true→(true==true)=true) from(fun _=>rfl)) (ci (show(AVle (.bool (((x15.1.length:Int):Int)==6)) (.bool true)) from(Dr hs17)) (ci (show((true==true)=true→(true==true)=true) from(fun _=>rfl)) (ci (show((true==true)=true→(Spec Try.prog 16 [(.ptr 30000 0),T4,(.int .i64 (1:Int))] (Ws x15) (.bool x18.1) (U7 x18))) from(fun _=>(B0 (3:Int) (1:Int) x15.2.2 x15.2.1 x18 hx18))) (ci (show(true=true→(true==true)=true) from(fun _=>rfl)) (ci (show(AVle (.bool x18.1) (.bool false)) from(Dr hs20)) (ci (show((false==true)=true→(false==true)=true) from Hb) (ci (show((false==true)=true→(Spec Try.prog 16 [.any,T4,(.int .i64 (2:Int))] [] (.bool false) [])) from Hb) (ci (show((false==true)=true→(false==true)=true) from Hb) (c1 (show(false=true→(false==true)=true) from Hb))))))))))))))))))))))))))))))))))))))))) ?_;obtain rfl:=OI h;exact Gz []
    ·refine gR hq [0] [] [(73,(.bool true)),(79,(.bool false))] [(Z5 (Uy x15) (Uv x15)),U9,U9] (ci (gI (T2 x3)) (ci (gI (T2 x3)) (ci (Gt (x3.1==0)) (ci (gI (Qh x3 x9)) (ci hc11 (ci (gI (Qh x3 x9)) (ci (gI (Qh x3 x9)) (ci (Gt (Qp x3 x9)) (ci (gI (Qg x3 x9)) (ci hc12 (ci (gI (Qg x3 x9)) (ci (gI (Qg x3 x9)) (ci (Gt (bif (Qp x3 x9) then(Uz x9) else false)) (ci (gI ((Ou x3 x9)==true)) (ci (Gt (Ou x3 x9)) (ci (gI (T1 x3 x9 x5)) (ci (gI (T1 x3 x9 x5)) (ci (Gt (bif (Ou x3 x9) then(Ux x5) else false)) (ci (gI ((Mf x3 x9 x5)==true)) (ci hc13 (ci (gI ((Mf x3 x9 x5)==true)) (ci (gI ((Mf x3 x9 x5)==true)) (ci (Gt (Mf x3 x9 x5)) (ci (gI ((Qi x3 x9 x5)==true)) (ci (Gt (Qi x3 x9 x5)) (ci (show(AVle (.bool (bif (Qi x3 x9 x5) then(x7.2.1==8) else false)) (.bool true)) from(Dr hs14)) (ci (show((true==true)=true→(true==true)=true) from(fun _=>rfl)) (ci (show((true==true)=true→(Spec Try.prog 21 [(.ptr 30000 0)] (Wa x9) (Uy x15) (Uv x15))) from(fun _=>(B1 x9.2.2 x9.2.1 x15 hx15))) (ci (show((true==true)=true→(true==true)=true) from(fun _=>rfl)) (ci (show((true==true)=true→(true==true)=true) from(fun _=>rfl)) (ci (show(true=true→(true==true)=true) from(fun _=>rfl)) (ci (show(AVle (.bool (((x15.1.length:Int):Int)==6)) (.bool false)) from(Dr hs17)) (ci (show((false==true)=true→(false==true)=true) from Hb) (ci (show((false==true)=true→(Spec Try.prog 16 [.any,T4,(.int .i64 (1:Int))] [] (.bool false) [])) from Hb) (ci (show(false=true→(false==true)=true) from Hb) (ci (show((false==true)=true→(false==true)=true) from Hb) (ci (show((false==true)=true→(Spec Try.prog 16 [.any,T4,(.int .i64 (2:Int))] [] (.bool false) [])) from Hb) (ci (show((false==true)=true→(false==true)=true) from Hb) (c1 (show(false=true→(false==true)=true) from Hb)))))))))))))))))))))))))))))))))))))))) ?_;obtain rfl:=OI h;exact Gz []
   ·refine gR hq [0] [] [(73,(.bool false))] [⟨[],[],Z6,[],[]⟩,U9,U9] (ci (gI (T2 x3)) (ci (gI (T2 x3)) (ci (Gt (x3.1==0)) (ci (gI (Qh x3 x9)) (ci hc11 (ci (gI (Qh x3 x9)) (ci (gI (Qh x3 x9)) (ci (Gt (Qp x3 x9)) (ci (gI (Qg x3 x9)) (ci hc12 (ci (gI (Qg x3 x9)) (ci (gI (Qg x3 x9)) (ci (Gt (bif (Qp x3 x9) then(Uz x9) else false)) (ci (gI ((Ou x3 x9)==true)) (ci (Gt (Ou x3 x9)) (ci (gI (T1 x3 x9 x5)) (ci (gI (T1 x3 x9 x5)) (ci (Gt (bif (Ou x3 x9) then(Ux x5) else false)) (ci (gI ((Mf x3 x9 x5)==true)) (ci hc13 (ci (gI ((Mf x3 x9 x5)==true)) (ci (gI ((Mf x3 x9 x5)==true)) (ci (Gt (Mf x3 x9 x5)) (ci (gI ((Qi x3 x9 x5)==true)) (ci (Gt (Qi x3 x9 x5)) (ci (show(AVle (.bool (bif (Qi x3 x9 x5) then(x7.2.1==8) else false)) (.bool false)) from(Dr hs14)) (ci (show((false==true)=true→(false==true)=true) from Hb) (ci (show((false==true)=true→(Spec Try.prog 21 [.any] [] Z6 [])) from Hb) (ci (show((false==true)=true→(false==true)=true) from Hb) (ci (show((false==true)=true→(false==true)=true) from Hb) (ci (show(false=true→(false==true)=true) from Hb) (ci (show((false==true)=true→(false==true)=true) from Hb) (ci (show((false==true)=true→(Spec Try.prog 16 [.any,T4,(.int .i64 (1:Int))] [] (.bool false) [])) from Hb) (ci (show(false=true→(false==true)=true) from Hb) (ci (show((false==true)=true→(false==true)=true) from Hb) (ci (show((false==true)=true→(Spec Try.prog 16 [.any,T4,(.int .i64 (2:Int))] [] (.bool false) [])) from Hb) (ci (show((false==true)=true→(false==true)=true) from Hb) (c1 (show(false=true→(false==true)=true) from Hb))))))))))))))))))))))))))))))))))))))) ?_;obtain rfl:=OI h;exact Gz []
 ·refine gR hq [1,2] [] [(10,(AV.list 1 eU8 0 Sq .exact))] [(Wz x1.2 (Uw x1))] (ci (G2 1 eU8 (0:Int) Sq) (c1 (show(Spec Try.prog 10 (T3 Sq) [] (.tuple [(bif false then((.ptr 20000 0):AV) else .nilp),(Hq x1.2)]) (bif false then(Uw x1) else[])) from(V4 (fun b_:Bool=>Spec Try.prog 10 (T3 Sq) [] (.tuple [(bif b_ then((.ptr 20000 0):AV) else .nilp),(Hq x1.2)]) (bif b_ then(Uw x1) else[])) hs2 (Ex Sq x1 hx1))))) ?_;refine gR hq [1,19] [] [] [] (ci (show((true==false)=true→(true==false)=true) from Hb) (c1 (show(true=false→(true==false)=true) from W7))) ?_;refine Vg true ?_;refine B3 hq [0] [] ?_;obtain rfl:=OI h;exact Gz []
def Wb(a1:Int):=(bif (bif (a1==8) then true else(a1==16)) then true else(a1==32))
def V1(a1:Int):=(bif (Wb a1) then true else(a1==64))
def Bj(a1:Int)(a3:Int):Option Bool:=
 (some (bif (bif (bif (bif (bif (a1==8) then true else(a1==16)) then true else(a1==32)) then true else(a1==64)) then(decide (((0:Int):Int)≤a3)) else false) then(decide (a3≤16)) else false))
theorem Fl(a1:Int)(a3:Int)(r:Bool)(h:Bj a1 a3=some r):Spec Try.prog 22 [(.int .i64 a1),(.int .i64 a3)] [] (.bool r) []:=by
 refine A8 mix Try.func22 (fun Γ hq=>?_);unfold Bj at h;refine B3 hq [0,1] [] ?_;refine gR hq [4] [] [] [] (ci (gI ((a1==8)==false)) (ci (O3 (a1==8)) (ci (gI ((bif (a1==8) then true else(a1==16))==false)) (ci (O3 (bif (a1==8) then true else(a1==16))) (ci (gI ((Wb a1)==false)) (ci (O3 (Wb a1)) (ci (gI ((V1 a1)==true)) (ci (Gt (V1 a1)) (ci (gI ((bif (V1 a1) then(decide (((0:Int):Int)≤a3)) else false)==true)) (c1 (Gt (bif (V1 a1) then(decide (((0:Int):Int)≤a3)) else false)))))))))))) ?_;cases h;exact Gz []
def A6(aB:List Int)(a4:List Int):Int→Option (LR Int (Unit ⊕ Bool)):=
 fun(i1:Int)=>(bif (decide (i1<(aB.length:Int))) then(C0 (E0 i1 aB.length) (C0 (E0 i1 a4.length) (bif (((aB.getD i1.toNat 0):Int)!=(a4.getD i1.toNat 0)) then(some (.done (.inr false))) else(some (.next (Oo (i1+1))))))) else(some (.done (.inl ()))))
def E8(Γ:Cy)(aB:List Int)(a4:List Int)(r:Bool):Exit→St→Prop:=fK Try.prog Γ Try.f18.results.toList [] (.bool r) []
def Be(aB:List Int)(a4:List Int):Option Bool:=
 (bif (((aB.length:Int):Int)!=(a4.length:Int)) then(some false) else((Ce (A6 aB a4) (0:Int)).bind (fun x4=>(match x4 with|(.inl _)=>(some true)|(.inr r6)=>(some r6)))))
theorem E5(aB:List Int)(a4:List Int)(r:Bool)(h:Be aB a4=some r):Spec Try.prog 18 [(AV.list 1 eU8 0 aB .none),(AV.list 1 eU8 0 a4 .none)] [] (.bool r) []:=by
 refine A8 mix Try.func18 (fun Γ hq=>?_);unfold Be at h;refine B3 hq [0,1] [] ?_;refine B3 hq [0,1,10] [] ?_;refine gC h (fun h=>?_) (fun h=>?_)
 ·refine B3 hq [4] [] ?_;obtain rfl:=OI h;exact Gz []
 ·refine B3 hq [0,1,5] [] ?_;obtain⟨x4,hx4,h⟩:=bind_some h;refine gL hq hx4 [0,1,5] [] (fun u i1=>(Qk u [(5,(Hq i1))] [])) (fun u x_=>match x_ with|(.inl _)=>aG Γ (.exit 0) (⟨[],[],[]⟩:St)|(.inr r_)=>aR (E8 Γ aB a4 r_)) ?_ ?_
  ·intro i1 y h;unfold A6 at h;refine B3 hq [0,1,5,14] [] ?_;refine gC h (fun h=>?_) (fun h=>?_)
   ·obtain⟨hc2,h⟩:=Af h;obtain⟨hc3,h⟩:=Af h;refine gR hq [0,1,5,25] [] [] [] (ci hc2 (c1 hc3)) ?_;refine gC h (fun h=>?_) (fun h=>?_)
    ·refine B3 hq [4] [] ?_;cases h;exact gO (Sy (N4 [] (Le.refl _ _)))
    ·refine B3 hq [0,1,5] [] ?_;cases h;exact gN Su
   ·cases h;exact gO (Pn (Jp [] [] hq))
  ·clear hx4;rcases x4 with _|r6
   ·refine gA ?_;refine B3 hq [4] [] ?_;obtain rfl:=OI h;exact Gz []
   ·refine Vf (fun st' hk=>?_);obtain rfl:=OI h;exact gK hk
def V2(a1:Int):=(bif (bif (a1==1) then true else(a1==8)) then true else(a1==16))
def Bz(a1:Int):Option Bool:=
 (some (bif (bif (bif (bif (a1==1) then true else(a1==8)) then true else(a1==16)) then true else(a1==32)) then true else(a1==64)))
theorem Fk(a1:Int)(r:Bool)(h:Bz a1=some r):Spec Try.prog 30 [(.int .i64 a1)] [] (.bool r) []:=by
 refine A8 mix Try.func30 (fun Γ hq=>?_);unfold Bz at h;refine B3 hq [0] [] ?_;refine gR hq [2] [] [] [] (ci (gI ((a1==1)==false)) (ci (O3 (a1==1)) (ci (gI ((bif (a1==1) then true else(a1==8))==false)) (ci (O3 (bif (a1==1) then true else(a1==8))) (ci (gI ((V2 a1)==false)) (ci (O3 (V2 a1)) (ci (gI ((bif (V2 a1) then true else(a1==32))==false)) (c1 (O3 (bif (V2 a1) then true else(a1==32))))))))))) ?_;cases h;exact Gz []
def Bi(aC:Int)(a1:Int):Option Int:=
 ((Bz a1).bind fun x1=>(bif (!x1) then(some (0:Int)) else(bif (a1==64) then(some aC) else(C0 (0≤(Ek a1)) (C0 ((Ho .u64 (1:Int) (Ek a1))≠0) (some (Int.tmod aC (Ho .u64 (1:Int) (Ek a1)))))))))
theorem Fj(aC:Int)(a1:Int)(r:Int)(h:Bi aC a1=some r):Spec Try.prog 23 [(.int .u64 aC),(.int .i64 a1)] [] (.int .u64 r) []:=by
 refine A8 mix Try.func23 (fun Γ hq=>?_);unfold Bi at h;refine B3 hq [0,1] [] ?_;obtain⟨x1,hx1,h⟩:=bind_some h;refine gR hq [0,1,7] [] [] [⟨[],[],(.bool x1),[],[]⟩] (c1 (Fk a1 x1 hx1)) ?_;refine gC h (fun h=>?_) (fun h=>?_)
 ·refine B3 hq [4] [] ?_;cases h;exact Gz []
 ·refine B3 hq [0,1,9] [] ?_;refine gC h (fun h=>?_) (fun h=>?_)
  ·refine B3 hq [4] [] ?_;obtain rfl:=OI h;exact Gz []
  ·obtain⟨hc2,h⟩:=Af h;obtain⟨hc3,h⟩:=Af h;refine gR hq [4] [] [] [] (ci hc2 (c1 hc3)) ?_;cases h;exact Gz []
def Ax(a4:List Int)(x10:(List Aa×List Aa×List Int)):(Int×List Int)→Option (LR (Int×List Int) (List Int ⊕ Bool)):=
 fun((i13,l14):(Int×List Int))=>(bif (decide (i13<(x10.1.length:Int))) then(C0 (E0 i13 x10.1.length) (C0 (((!(x10.1.getD i13.toNat default).Write)==false)=true→(E0 i13 x10.1.length)) (bif (bif (!(x10.1.getD i13.toNat default).Write) then true else(decide (((Ek (a4.length:Int)):Int)≤(x10.1.getD i13.toNat default).At))) then(some (.done (.inr false))) else(C0 (E0 i13 x10.1.length) (C0 (E0 i13 x10.1.length) (C0 (E0 (x10.1.getD i13.toNat default).At l14.length) (some (.next ((Oo (i13+1)),(l14.set ((x10.1.getD i13.toNat default).At).toNat (x10.1.getD i13.toNat default).Byte)))))))))) else(some (.done (.inl l14))))
def Ay(a5:TDo)(x26:(List Int×Int×List Aa×List Int)):Int→Option (LR Int (Unit ⊕ Bool)):=
 fun(i28:Int)=>(bif (decide (i28<(x26.1.length:Int))) then(C0 (E0 i28 x26.1.length) (C0 (E0 i28 a5.List.length) ((Bi (a5.List.getD i28.toNat 0) a5.Bits).bind fun x31=>(bif (((x26.1.getD i28.toNat 0):Int)!=x31) then(some (.done (.inr false))) else(some (.next (Oo (i28+1)))))))) else(some (.done (.inl ()))))
def Cr(Γ:Cy)(a4:List Int)(aA:Int)(a5:TDo)(r:Bool):Exit→St→Prop:=fK Try.prog Γ Try.f4.results.toList [] (.bool r) []
def Mg(x10:(List Aa×List Aa×List Int))(i13:Int):=(x10.1.getD i13.toNat default)
def Wv(x4:(Int×List Aa×List Int)):List (Nat×Own):=(Z3 x4.2.2.length x4.2.1 x4.2.1.length x4.2.2)
def U0(x2:((Bool×Ku)×Int)):List (Nat×Own):=(Z4 20000 21000 x2.1.2.bytes.length x2.1.2.trace 21001 x2.1.2.bytes x2.1.2.trace.length)
def Wu(x8:(List Aa×List Aa×List Int)):List (Nat×Own):=(Wc x8.2.2.length x8.2.1 x8.2.1.length x8.2.2 x8.1.length)
def Bg(a4:List Int)(aA:Int)(a5:TDo):Option Bool:=
 (m_locksteplaw12_awake.bind fun x1=>(bif (!x1) then(some false) else((Ct a4).bind fun x2=>(bif x2.1.1 then((Bt aA a5.Bits a5.List x2.1.2.bytes x2.1.2.trace).bind fun x4=>(C0 (x2.1.2.bytes.length=x4.2.2.length) ((Bj a5.Bits (a5.List.length:Int)).bind fun x6=>(bif (!x6) then(bif (x4.1==1) then((Bh x4.2.2 x4.2.1).bind fun x8=>(C0 (x4.2.2.length=x8.2.2.length) (some (((x8.1.length:Int):Int)==0)))) else(some false)) else((Bh x4.2.2 x4.2.1).bind fun x10=>(C0 (x4.2.2.length=x10.2.2.length) (C0 (a4.length≤room) ((Ce (Ax a4 x10) ((0:Int),a4)).bind (fun x21=>(match x21 with|(.inl l15)=>((Bs x10.2.2 x10.2.1).bind fun x23=>(C0 (x10.2.2.length=x23.2.2.length) ((Be x23.1 l15).bind fun x25=>(bif (!x25) then(some false) else(bif (x4.1 !=0) then(some (x4.1==8)) else((Bo aA a5.Bits (a5.List.length:Int) x23.2.2 x23.2.1).bind fun x26=>(C0 (x23.2.2.length=x26.2.2.2.length) (bif (bif (x26.2.1 !=0) then true else(((x26.1.length:Int):Int)!=(a5.List.length:Int))) then(some false) else((Ce (Ay a5 x26) (0:Int)).bind (fun x32=>(match x32 with|(.inl _)=>(some true)|(.inr r34)=>(some r34))))))))))))|(.inr r35)=>(some r35))))))))))) else(some (bif (x2.2==4) then(decide (((4096:Int):Int)<(a4.length:Int))) else false))))))
theorem ok_locksteplaw12_MemBack(a4:List Int)(aA:Int)(a5:TDo)(r:Bool)(h:Bg a4 aA a5=some r):Spec Try.prog 4 [(AV.list 1 eU8 0 a4 .none),(.int .u64 aA),(.agg (eTDo a5))] [] (.bool r) []:=by
 refine A8 mix Try.func4 (fun Γ hq=>?_);have hΓ:=hq.own;unfold Bg at h;refine B3 hq [0,1,5] [5] ?_;obtain⟨x1,hx1,h⟩:=bind_some h;refine gR hq [0,1,5,19] [5] [] [⟨[],[],(.bool x1),[],[]⟩] (c1 (Ew  x1 hx1)) ?_;refine gC h (fun h=>?_) (fun h=>?_)
 ·refine B3 hq [6] [] ?_;obtain rfl:=OI h;exact Gz []
 ·refine B3 hq [0,1,5,7] [5] ?_;refine B3 hq [0,1,7,8] [] ?_;obtain⟨x2,hx2,h⟩:=bind_some h;refine gB h (fun hs3 h=>?_) (fun hs3 h=>?_)
  ·refine gR hq [0,1,7,8,9,10] [26,60026000,60026001] [] [(Wy 26 60026000 60026001 x2.2 (U0 x2))] (c1 (show(Spec Try.prog 10 (T3 a4) [] (.tuple [(bif true then((.ptr 20000 0):AV) else .nilp),(Hq x2.2)]) (bif true then(U0 x2) else[])) from(V4 (fun b_:Bool=>Spec Try.prog 10 (T3 a4) [] (.tuple [(bif b_ then((.ptr 20000 0):AV) else .nilp),(Hq x2.2)]) (bif b_ then(U0 x2) else[])) hs3 (Ex a4 x2 hx2)))) ?_;refine B3 hq [0,1,7,8,9,10,30] [26,60026000,60026001] ?_;refine Vg false ?_;obtain⟨x4,hx4,h⟩:=bind_some h;obtain⟨hc5,h⟩:=Af h;refine gR hq [0,1,7,8,9,11] [26,60026000,60026001] [] [⟨[(26,30000),(60026001,37001),(60026000,35000)],[],(Hq x4.1),(Wv x4),[]⟩] (c1 (Eh aA a5.Bits a5.List x2.1.2.bytes x2.1.2.trace x4 hx4)) ?_;obtain⟨x6,hx6,h⟩:=bind_some h;refine gR hq [0,1,7,8,9,11,47] [26,60026000,60026001] [] [⟨[],[],(.bool x6),[],[]⟩] (c1 (Fl a5.Bits (a5.List.length:Int) x6 hx6)) ?_;refine gC h (fun h=>?_) (fun h=>?_)
   ·refine gB h (fun hs7 h=>?_) (fun hs7 h=>?_)
    ·obtain⟨x8,hx8,h⟩:=bind_some h;obtain⟨hc9,h⟩:=Af h;refine gR hq [6] [] [(50,(.bool true))] [⟨[(26,30000),(60026001,37001),(60026000,35000)],[(20000,52)],(Z7 x8.1),(Wu x8),[]⟩] (ci (show(AVle (.bool (x4.1==1)) (.bool true)) from(Dr hs7)) (ci (show((true==true)=true→(true==true)=true) from(fun _=>rfl)) (ci (show((true==true)=true→(Spec Try.prog 21 [(.ptr 30000 0)] (Wv x4) (Z7 x8.1) (Wu x8))) from(fun _=>(B1 x4.2.2 x4.2.1 x8 hx8))) (ci (show((true==true)=true→(true==true)=true) from(fun _=>rfl)) (ci (show((true==true)=true→(true==true)=true) from(fun _=>rfl)) (c1 (show(true=true→(true==true)=true) from(fun _=>rfl)))))))) ?_;cases h;exact Gz []
    ·refine gR hq [6] [] [(50,(.bool false))] [⟨[],[],Z6,[],[]⟩] (ci (show(AVle (.bool (x4.1==1)) (.bool false)) from(Dr hs7)) (ci (show((false==true)=true→(false==true)=true) from Hb) (ci (show((false==true)=true→(Spec Try.prog 21 [.any] [] Z6 [])) from Hb) (ci (show((false==true)=true→(false==true)=true) from Hb) (ci (show((false==true)=true→(false==true)=true) from Hb) (c1 (show(false=true→(false==true)=true) from Hb))))))) ?_;obtain rfl:=OI h;exact Gz []
   ·obtain⟨x10,hx10,h⟩:=bind_some h;obtain⟨hc11,h⟩:=Af h;refine gR hq [0,1,7,8,9,11,12] [26,57,60026000,60026001] [] [⟨[(26,30000),(60026001,37001),(60026000,35000)],[(20000,57)],(Z7 x10.1),(Wc x10.2.2.length x10.2.1 x10.2.1.length x10.2.2 x10.1.length),[]⟩] (c1 (B1 x4.2.2 x4.2.1 x10 hx10)) ?_;obtain⟨hc12,h⟩:=Af h;refine gR hq [0,1,7,8,9,11,12,13] [26,57,60,60026000,60026001] [(58,V3),(60,.vsl 60 0)] [] (ci (show(AVle (.slice 1 0 (fun i=>([]:List (List AV)).getD i []) .exact) V3) from Lr rfl (fun i hi=>absurd hi (Nat.not_lt_zero i))) (c1 hc12)) ?_;refine B3 hq [0,1,7,8,9,11,12,13,14] [26,57,60,60026000,60026001] ?_;obtain⟨x21,hx21,h⟩:=bind_some h;refine gL hq hx21 [0,1,7,8,9,11,12,13,14] [26,57,60,60026000,60026001] (fun u (i13,l14)=>(Qk u [(13,(.vsl 60 l14.length)),(14,(Hq i13))] [(Z2 60 l14)])) (fun u x_=>match x_ with|(.inl l15)=>aG Γ (.exit 0) (W4 [1,7,8,9,11,13] [26,60,60026000,60026001] u [(13,(.vsl 60 l15.length))] [(Z2 60 l15)])|(.inr r_)=>aR (Cr Γ a4 aA a5 r_)) ?_ ?_
    ·rintro⟨i13,l14⟩ y h;unfold Ax at h;refine B3 hq [0,1,7,8,9,11,12,13,14,64] [26,57,60,60026000,60026001] ?_;refine gC h (fun h=>?_) (fun h=>?_)
     ·obtain⟨hc16,h⟩:=Af h;obtain⟨hc17,h⟩:=Af h;refine gR hq [0,1,7,8,9,11,12,13,14,83] [26,57,60,60026000,60026001] [] [] (ci hc16 (ci (gI ((!(Mg x10 i13).Write)==false)) (ci (gI ((!(Mg x10 i13).Write)==false)) (ci hc17 (ci (gI ((!(Mg x10 i13).Write)==false)) (ci (gI ((!(Mg x10 i13).Write)==false)) (ci (gI ((!(Mg x10 i13).Write)==false)) (ci (gI ((!(Mg x10 i13).Write)==false)) (ci (gI ((!(Mg x10 i13).Write)==false)) (ci (gI ((!(Mg x10 i13).Write)==false)) (c1 (O3 (!(Mg x10 i13).Write))))))))))))) ?_;refine gC h (fun h=>?_) (fun h=>?_)
      ·refine B3 hq [6] [] ?_;cases h;exact gO (Sy (N4 [] (Le.refl _ _)))
      ·obtain⟨hc18,h⟩:=Af h;obtain⟨hc19,h⟩:=Af h;obtain⟨hc20,h⟩:=Af h;refine gR hq [0,1,7,8,9,11,12,13,14] [26,57,60,60026000,60026001] [] [] (ci hc18 (ci hc19 (ci hc20 (c1 (Eq.refl l14.length))))) ?_;refine U2 (Le.trans (V5 60 (show ∀ k_,k_<l14.length→AVleL ((fun i_=>AV.eraseAll (fun n_=>Cf n_ [26,57,60,60026000,60026001]) ((Is (fun i=>eU8 (l14.getD i 0)) ((Mg x10 i13).At).toNat 0 [(.int .u8 (Mg x10 i13).Byte)]) i_)) k_) ((fun i=>eU8 ((l14.set ((Mg x10 i13).At).toNat (Mg x10 i13).Byte).getD i 0)) k_) from(Hw (List.length_set ..).symm (fun k_ hk_=>(congrArg (AV.eraseAll (fun n_=>Cf n_ [26,57,60,60026000,60026001])) ((J4 (fun _ _=>rfl) (Lw hc20) rfl) k_ hk_)).trans rfl)))) (V6 (fun(k_:Nat) u=>(Qk u [(13,(.vsl 60 k_))] [(60,.arr 1 5 k_ (fun i=>eU8 ((l14.set ((Mg x10 i13).At).toNat (Mg x10 i13).Byte).getD i 0)))])) (show l14.length=(l14.set ((Mg x10 i13).At).toNat (Mg x10 i13).Byte).length from(List.length_set ..).symm))) ?_;refine B3 hq [0,1,7,8,9,11,12,13,14] [26,57,60,60026000,60026001] ?_;cases h;exact gN Su
     ·cases h;exact gO (Pn (Jp [1,7,8,9,11,13] [26,60,60026000,60026001] hq))
    ·clear hx21;rcases x21 with l15|r35
     ·refine gA ?_;refine T8 (⟨[(1,(.int .u64 aA)),(7,(Hq a5.Bits)),(8,(AV.list 1 Cu 0 a5.List .none)),(9,(.ptr 26 0)),(11,(Hq x4.1)),(13,(.vsl 60 l15.length))],[(Z1 26 60026000 x10.2.2.length x10.2.1 60026001),(Z2 60 l15),(Z2 60026000 x10.2.2),(60026001,.tok 3 49 x10.2.1.length)],[]⟩:St) ?_;refine U2 (Le.trans (Hx (nm:=60) (sz:=1) (n:=l15.length) (e:=5) (f:=(fun i=>eU8 (l15.getD i 0))) (g:=(fun i=>eU8 (l15.getD i 0))) rfl ⟨rfl,trivial⟩ (fun _ _=>rfl) (by rw[hΓ];rfl)) (Rv (st':=⟨[(1,(.int .u64 aA)),(7,(Hq a5.Bits)),(8,(AV.list 1 Cu 0 a5.List .none)),(9,(.ptr 26 0)),(11,(Hq x4.1)),(13,(AV.list 1 eU8 0 l15 (.own 60)))],[(Z1 26 60026000 x10.2.2.length x10.2.1 60026001),(60,.tok 1 5 l15.length),(Z2 60026000 x10.2.2),(60026001,.tok 3 49 x10.2.1.length)],[]⟩) (by kernel_rfl))) ?_;obtain⟨x23,hx23,h⟩:=bind_some h;obtain⟨hc24,h⟩:=Af h;obtain⟨x25,hx25,h⟩:=bind_some h;refine gR hq [1,7,8,9,11,100] [26,60026000,60026001] [] [(Wx 26 60026001 60026000 97 x23.1 x23.2.2.length x23.2.1 x23.2.1.length x23.2.2 x23.1.length),⟨[],[],(.bool x25),[],[]⟩] (ci (Eg x10.2.2 x10.2.1 x23 hx23) (c1 (E5 x23.1 l15 x25 hx25))) ?_;refine gC h (fun h=>?_) (fun h=>?_)
      ·refine B3 hq [6] [] ?_;obtain rfl:=OI h;exact Gz []
      ·refine B3 hq [1,7,8,9,11,102] [26,60026000,60026001] ?_;refine gC h (fun h=>?_) (fun h=>?_)
       ·refine B3 hq [6] [] ?_;cases h;exact Gz []
       ·obtain⟨x26,hx26,h⟩:=bind_some h;obtain⟨hc27,h⟩:=Af h;refine gR hq [7,8,15,16] [111] [] [(Z8 26 60026001 60026000 111 x26.1 x26.2.1 x26.2.2.2.length x26.2.2.1 x26.2.2.1.length x26.2.2.2 x26.1.length)] (c1 (Dg aA a5.Bits (a5.List.length:Int) x23.2.2 x23.2.1 x26 hx26)) ?_;refine gR hq [7,8,15,122] [111] [] [] (ci (gI ((x26.2.1 !=0)==false)) (ci (gI ((x26.2.1 !=0)==false)) (ci (gI ((x26.2.1 !=0)==false)) (ci (gI ((x26.2.1 !=0)==false)) (c1 (O3 (x26.2.1 !=0))))))) ?_;refine gC h (fun h=>?_) (fun h=>?_)
        ·refine B3 hq [6] [] ?_;obtain rfl:=OI h;exact Gz []
        ·refine B3 hq [7,8,15,17] [111] ?_;obtain⟨x32,hx32,h⟩:=bind_some h;refine gL hq hx32 [7,8,15,17] [111] (fun u i28=>(Qk u [(17,(Hq i28))] [])) (fun u x_=>match x_ with|(.inl _)=>aG Γ (.exit 2) (⟨[],[],[]⟩:St)|(.inr r_)=>aR (Cr Γ a4 aA a5 r_)) ?_ ?_
         ·intro i28 y h;unfold Ay at h;refine B3 hq [7,8,15,17,126] [111] ?_;refine gC h (fun h=>?_) (fun h=>?_)
          ·obtain⟨hc29,h⟩:=Af h;obtain⟨hc30,h⟩:=Af h;obtain⟨x31,hx31,h⟩:=bind_some h;refine gR hq [7,8,15,17,139] [111] [] [⟨[],[],(.int .u64 x31),[],[]⟩] (ci hc29 (ci hc30 (c1 (Fj (a5.List.getD i28.toNat 0) a5.Bits x31 hx31)))) ?_;refine gC h (fun h=>?_) (fun h=>?_)
           ·refine B3 hq [6] [] ?_;cases h;exact gO (Sy (N4 [] (Le.refl _ _)))
           ·refine B3 hq [7,8,15,17] [111] ?_;cases h;exact gN Su
          ·cases h;exact gO (Pn (Jp [] [] hq))
         ·clear hx32;rcases x32 with _|r34
          ·refine gA ?_;refine B3 hq [6] [] ?_;obtain rfl:=OI h;exact Gz []
          ·refine Vf (fun st' hk=>?_);obtain rfl:=OI h;exact gK hk
     ·refine Vf (fun st' hk=>?_);obtain rfl:=OI h;exact gK hk
  ·refine gR hq [0,1,7,8,9,10] [] [] [(Wz x2.2 (U0 x2))] (c1 (show(Spec Try.prog 10 (T3 a4) [] (.tuple [(bif false then((.ptr 20000 0):AV) else .nilp),(Hq x2.2)]) (bif false then(U0 x2) else[])) from(V4 (fun b_:Bool=>Spec Try.prog 10 (T3 a4) [] (.tuple [(bif b_ then((.ptr 20000 0):AV) else .nilp),(Hq x2.2)]) (bif b_ then(U0 x2) else[])) hs3 (Ex a4 x2 hx2)))) ?_;refine B3 hq [0,1,7,8,9,10,30] [] ?_;refine Vg true ?_;refine gR hq [6] [] [] [] (ci (gI ((x2.2==4)==true)) (ci (gI ((x2.2==4)==true)) (c1 (Gt (x2.2==4))))) ?_;cases h;exact Gz []
theorem Md{n:Int}(h:-9223372036854775808≤n)(h':n<9223372036854775808):Oo n=n:=by
 show IntKind.i64.wrap n=n
 simp only[IntKind.wrap,IntKind.bits,IntKind.signed]
 simp
 split<;>omega
theorem Dp{n:Int}(h:0≤n)(h':n<18446744073709551616):Ek n=n:=by
 show IntKind.u64.wrap n=n
 simp[IntKind.wrap,IntKind.bits,IntKind.signed];omega
theorem Ty(n:Int):Tx n=n % 256:=by
 show IntKind.u8.wrap n=_
 simp[IntKind.wrap,IntKind.bits,IntKind.signed]
theorem La(w n:Nat)(h:n<2 ^ w):(BitVec.ofInt w (n:Int)).toNat=n:=by
 rw[BitVec.toNat_ofInt,← Int.natCast_emod,Int.toNat_natCast,Nat.mod_eq_of_lt h]
theorem Nm(k:IntKind)(hk:k.signed=false){n:Nat}(h:n<2 ^ k.bits):k.wrap (n:Int)=n:=by
 simp only[IntKind.wrap,hk,Bool.false_and,Bool.false_eq_true,if_false]
 have:((2:Int) ^ k.bits)=((2 ^ k.bits:Nat):Int):=by simp
 rw[this,← Int.natCast_emod,Nat.mod_eq_of_lt h]
theorem S5(k:IntKind)(hk:k.signed=false){a b:Nat}(ha:a<2 ^ k.bits)(hb:b<2 ^ k.bits):E2 .or k a b=((a ||| b:Nat):Int):=by
 simp only[E2,BitVec.toNat_or,La _ _ ha,La _ _ hb];exact Nm k hk (Nat.or_lt_two_pow ha hb)
theorem Ur(k:IntKind)(hk:k.signed=false)(j:Nat){a b:Nat}(ha:a<2 ^ j)(hb:a+b*2 ^ j<2 ^ k.bits){y:Int}(hy:y=((b*2 ^ j:Nat):Int)):E2 .or k a y=((a+b*2 ^ j:Nat):Int):=by
 subst hy;rw[S5 k hk (by omega) (by omega),Nat.or_comm,Nat.mul_comm b,← Nat.two_pow_add_eq_or_of_lt ha,Nat.add_comm]
theorem Rq{x:Int}(j:Nat):x.fdiv (2 ^ j)=x / 2 ^ j:=by rw[Int.fdiv_eq_ediv_of_nonneg _ (by exact Int.le_of_lt (Int.pow_pos (by decide)))]
theorem Cb{α:Type}(l:List α)(i:Nat)(d:α)(h:i<l.length):l.getD i d=l[i]:=by simp[List.getD,h]
theorem Fu{α:Type}(l:List α)(i:Nat)(d:α)(h:i<l.length):l.take (i+1)=l.take i++[l.getD i d]:=by
 rw[List.take_add_one,Cb _ _ _ h];simp[h]
theorem Jh{α:Type}{l:List α}{i:Nat}{d:α}(h:i<l.length):l.getD i d∈l:=by rw[Cb _ _ _ h];exact List.getElem_mem h
theorem Ta{i n:Nat}(h:i<n):E0 (i:Int) n:=⟨by omega,by exact_mod_cast h⟩
theorem Jo{S X:Type}(f:S→Option (LR S X))(T:Nat→S)(x:X):∀(n:Nat),(∀ i,i<n→f (T i)=some (.next (T (i+1))))→f (T n)=some (.done x)→Ce f (T 0)=some x:=by
 suffices h:∀(k i n:Nat),i+k=n→(∀ j,i≤j→j<n→f (T j)=some (.next (T (j+1))))→f (T n)=some (.done x)→Ce f (T i)=some x from
  fun n h1 h2=>h n 0 n (by omega) (fun j _ hj=>h1 j hj) h2
 intro k
 induction k with
 | zero=>
  intro i n hi _ h2
  have hin:n=i:=by omega
  subst hin;exact B5 h2
 | succ k ih=>intro i n hi h1 h2;rw[Dv (h1 i (Nat.le_refl _) (by omega))];exact ih (i+1) n (by omega) (fun j hj hj'=>h1 j (by omega) hj') h2
theorem B6(i:Nat):((i:Int)).toNat=i:=Int.toNat_natCast i
theorem w1{i:Nat}(h:i<4611686018427387904):Oo ((i:Int)+1)=((i+1:Nat):Int):=by rw[Md (by omega) (by omega)];omega
theorem G6{i n:Nat}(h:i<n):decide (((i:Nat):Int)<((n:Nat):Int))=true:=by simpa using h
theorem Jf{n:Nat}:decide (((n:Nat):Int)<((n:Nat):Int))=false:=by simp
theorem Px{i n:Nat}(h:i<n):E0 ((i:Nat):Int) n:=Ta h
def Gc(B:List Int):Prop:=∀ x∈B,0≤x∧x<256
def Hr:Nat→Int→List Int
 | 0,_=>[]
 | s+1,v=>v % 256::Hr s (v / 256)
def Qj:List Int→Int
 | []=>0
 | b::l=>b+256*Qj l
def Me(w:Bool):Nat→List Int→List Aa
 | _,[]=>[]
 | a,b::l=>⟨w,(a:Int),b⟩::Me w (a+1) l
def Dm:List Int→Nat→List Int→List Int
 | B,_,[]=>B
 | B,a,b::l=>Dm (B.set a b) (a+1) l
def Dc(B:List Int)(a s:Nat):List Int:=(B.drop a).take s
theorem G4(s:Nat)(v:Int):(Hr s v).length=s:=by induction s generalizing v with|zero=>rfl|succ s ih=>simp[Hr,ih]
theorem Uh(s:Nat)(v:Int):Gc (Hr s v):=by
 induction s generalizing v with
 | zero=>intro x hx;cases hx
 | succ s ih=>
  intro x hx;rcases List.mem_cons.1 hx with rfl|hx
  ·omega
  ·exact ih _ x hx
theorem I5(w:Bool)(a:Nat)(l:List Int):(Me w a l).length=l.length:=by induction l generalizing a with|nil=>rfl|cons b l ih=>simp[Me,ih]
theorem C8(B:List Int)(a:Nat)(l:List Int):(Dm B a l).length=B.length:=by induction l generalizing B a with|nil=>rfl|cons b l ih=>simp[Dm,ih]
theorem Tn{B:List Int}{a:Nat}{l:List Int}(hB:Gc B)(hl:Gc l):Gc (Dm B a l):=by
 induction l generalizing B a with
 | nil=>exact hB
 | cons b l ih=>
  refine ih (fun x hx=>?_) fun x hx=>hl x (List.mem_cons_of_mem _ hx);rcases List.mem_or_eq_of_mem_set hx with h|h
  ·exact hB x h
  ·rw[h];exact hl b (List.mem_cons_self ..)
theorem Kf{B:List Int}{a s:Nat}(h:a+s≤B.length):(Dc B a s).length=s:=by simp[Dc];omega
theorem H6(B:List Int)(a:Nat):Dc B a 0=[]:=by simp[Dc]
theorem Qd{B:List Int}{a s:Nat}(h:a<B.length):Dc B a (s+1)=B.getD a 0::Dc B (a+1) s:=by
 unfold Dc;rw[List.drop_eq_getElem_cons h,List.take_succ_cons,Cb _ _ _ h]
theorem Li{B:List Int}{a s:Nat}(h:a+s<B.length):Dc B a (s+1)=Dc B a s++[B.getD (a+s) 0]:=by
 unfold Dc;rw[Fu _ _ 0 (by simp;omega)]
 congr 2
 simp[List.getD,List.getElem?_drop]
theorem S7{B:List Int}(hB:Gc B)(i:Nat):0≤B.getD i 0∧B.getD i 0<256:=by
 by_cases h:i<B.length
 ·exact hB _ (Jh h)
 ·simp[List.getD,h]
theorem Oh(n:Nat):(0:Int)<256 ^ n:=Int.pow_pos (by decide)
theorem Tf(s:Nat)(v:Int):Qj (Hr s v)=v % 256 ^ s:=by
 induction s generalizing v with
 | zero=>simp[Hr,Qj]
 | succ s ih=>
  simp only[Hr,Qj,ih,Int.pow_succ];have hp:(0:Int)<256 ^ s:=Oh s
  generalize (256:Int) ^ s=c at hp
  have h1:v=v % 256+256*(v / 256):=(Int.emod_add_mul_ediv v 256).symm;have h2:v / 256=(v / 256) % c+c*(v / 256 / c):=(Int.emod_add_mul_ediv _ c).symm;have h0:=Int.emod_nonneg v (show(256:Int)≠0 by decide);have h0':=Int.emod_lt_of_pos v (show(0:Int)<256 by decide);have h3:=Int.emod_nonneg (v / 256) (Int.ne_of_gt hp);have h4:=Int.emod_lt_of_pos (v / 256) hp
  generalize v / 256=q at *
  generalize v % 256=r at *
  have h5:v=(r+256*(q % c))+(c*256)*(q / c):=by
   have:(c*256)*(q / c)=256*(c*(q / c)):=by rw[Int.mul_comm c 256,Int.mul_assoc]
   rw[this];omega
  rw[h5,Int.add_mul_emod_self_left,Int.emod_eq_of_lt (a:=r+256*(q % c)) (b:=c*256) (by omega) (by omega)]
def V7(N:Nat)(a n:Int):Bool:=decide (1≤n)&&decide (a+n≤N)
theorem F5{B:List Int}{T:List Aa}{a n:Int}(ha:0≤a)(hB:B.length<4611686018427387904):Ba a n B T=some (V7 B.length a n,T,B):=by
 unfold Ba V7;rw[cond_false]
 by_cases h1:n<1
 ·rw[show decide (n<(1:Int))=true from decide_eq_true (by omega),cond_true,cond_true];rw[show decide (1≤n)=false from decide_eq_false (by omega),Bool.false_and]
 ·rw[show decide (n<(1:Int))=false from decide_eq_false (by omega),cond_false,show decide (1≤n)=true from decide_eq_true (by omega),Bool.true_and]
  by_cases h2:(B.length:Int)<n
  ·rw[show decide ((B.length:Int)<n)=true from decide_eq_true (by omega),cond_true];rw[show decide (a+n≤(B.length:Int))=false from decide_eq_false (by omega)]
  ·rw[show decide ((B.length:Int)<n)=false from decide_eq_false (by omega),cond_false];rw[Md (by omega) (by omega),Dp (by omega) (by omega)];rw[show decide (a≤(B.length:Int)-n)=decide (a+n≤(B.length:Int)) from decide_eq_decide.2 (by omega)]
theorem Us{v b:Int}{i:Nat}(h0:0≤v)(h1:v<256 ^ i)(hb:0≤b)(hb':b<256)(hi:i<8):E2 .or .u64 v (Ho .u64 (Ek b) (Oo (8*(i:Int))))=v+256 ^ i*b:=by
 have e1:(256:Int) ^ i=((2 ^ (8*i):Nat):Int):=by rw[Nat.pow_mul];exact(Int.natCast_pow 256 i).symm
 obtain⟨V,rfl⟩:∃ V:Nat,v=V:=⟨v.toNat,by omega⟩;obtain⟨C,rfl⟩:∃ C:Nat,b=C:=⟨b.toNat,by omega⟩;rw[e1]at h1 ⊢;have h1:V<2 ^ (8*i):=Int.ofNat_lt.1 h1;have hC:C<256:=Int.ofNat_lt.1 hb'
 have hp:2 ^ (8*i)*256≤2 ^ 64:=by
  have:2 ^ (8*i)*2 ^ 8=2 ^ (8*i+8):=by rw[Nat.pow_add]
  have h2:(2:Nat) ^ (8*i+8)≤2 ^ 64:=Nat.pow_le_pow_right (by decide) (by omega);omega
 have hlt:V+C*2 ^ (8*i)<2 ^ 64:=by
  have:C*2 ^ (8*i)≤255*2 ^ (8*i):=Nat.mul_le_mul_right _ (by omega);omega
 rw[Md (by omega) (by omega),Dp (by omega) (by omega)]
 have e2:Ho .u64 (C:Int) (8*(i:Int))=((C*2 ^ (8*i):Nat):Int):=by
  unfold Ho
  have:(8*(i:Int)).toNat=8*i:=by omega
  rw[this,show min (8*i) IntKind.u64.bits=8*i by simp[IntKind.bits];omega]
  have e3:(C:Int)*2 ^ (8*i)=((C*2 ^ (8*i):Nat):Int):=by rw[Int.natCast_mul,Int.natCast_pow];rfl
  rw[e3];exact Nm .u64 rfl (by simp[IntKind.bits];omega)
 rw[Ur .u64 rfl (8*i) h1 (by simpa [IntKind.bits] using hlt) e2];rw[Int.natCast_add,Int.natCast_mul,Int.mul_comm]
theorem Pd{B:List Int}(hB:Gc B)(hL:B.length<4611686018427387904){s:Nat}(hs:s≤8):∀(k i cur:Nat) (v:Int) (t:List Aa),i+k=s→cur+k≤B.length→0≤v→v<256 ^ i→t.length+k≤room→
  Ce (A7 (s:Int) B) ((cur:Int),v,(i:Int),t)=some (v+256 ^ i*Qj (Dc B cur k),t++Me false cur (Dc B cur k))
 | 0,i,cur,v,t,hi,hc,h0,h1,hr=>by
  obtain rfl:i=s:=by omega
  refine B5 ?_;unfold A7;simp only;rw[Jf,cond_false,H6];simp[Qj,Me]
 | k+1,i,cur,v,t,hi,hc,h0,h1,hr=>by
  obtain⟨b0,b1⟩:=S7 hB cur
  have step:A7 (s:Int) B ((cur:Int),v,(i:Int),t)=some (.next (((cur+1:Nat):Int),v+256 ^ i*B.getD cur 0,((i+1:Nat):Int),t++[⟨false,(cur:Int),B.getD cur 0⟩])):=by
   unfold A7;simp only;rw[G6 (by omega),cond_true,Ag (Px (by omega)),Ag (by simp;omega),Ag (by rw[Md (by omega) (by omega)];omega),B6,Us h0 h1 b0 b1 (by omega),w1 (by omega),Dp (by omega) (by omega)]
   rfl
  rw[Dv step,Pd hB hL hs k (i+1) (cur+1) _ _ (by omega) (by omega) (by have:=Int.mul_nonneg (Int.le_of_lt (Oh i)) b0;omega) (by
   rw[Int.pow_succ];have:256 ^ i*B.getD cur 0≤256 ^ i*255:=Int.mul_le_mul_of_nonneg_left (by omega) (Int.le_of_lt (Oh i))
   omega) (by simp;omega),Qd (by omega)]
  simp only[Qj,Me,Int.pow_succ,List.append_assoc,List.singleton_append];rw[Int.mul_add,Int.add_assoc,Int.mul_assoc]
theorem P3{B:List Int}{T:List Aa}(hB:Gc B)(hL:B.length<4611686018427387904){s cur:Nat}(hs:s≤8)(hc:cur+s≤B.length)(hr:T.length+s≤room) :
  Bv (cur:Int) (s:Int) B T=some (Qj (Dc B cur s),T++Me false cur (Dc B cur s),B):=by
 unfold Bv;have:=Pd hB hL hs s 0 cur 0 T (by omega) hc (by decide) (by decide) hr;rw[show((0:Nat):Int)=0 from rfl]at this;rw[this]
 simp
theorem Wm{v:Int}:Sg .u64 v (8:Int)=v / 256:=by
 unfold Sg
 have:min (8:Int).toNat IntKind.u64.bits=8:=by decide
 rw[this,Rq]
 rfl
theorem Pi{s:Nat}(hs:s≤8):∀(k i cur:Nat) (v:Int) (t:List Aa) (B:List Int),i+k=s→cur+k≤B.length→B.length<4611686018427387904→t.length+k≤room→
  Ce (A2 (s:Int)) ((cur:Int),v,(i:Int),t,B)=some (t++Me true cur (Hr k v),Dm B cur (Hr k v))
 | 0,i,cur,v,t,B,hi,hc,hL,hr=>by
  obtain rfl:i=s:=by omega
  refine B5 ?_;unfold A2;simp only;rw[Jf,cond_false];simp[Hr,Me,Dm]
 | k+1,i,cur,v,t,B,hi,hc,hL,hr=>by
  have step:A2 (s:Int) ((cur:Int),v,(i:Int),t,B)=some (.next (((cur+1:Nat):Int),v / 256,((i+1:Nat):Int),t++[⟨true,(cur:Int),v % 256⟩],B.set cur (v % 256))):=by
   unfold A2;simp only;rw[G6 (by omega),cond_true,Ag (Px (by omega)),Ag (by simp;omega),B6,Wm,Ty,w1 (by omega),Dp (by omega) (by omega)]
   rfl
  rw[Dv step,Pi hs k (i+1) (cur+1) _ _ _ (by omega) (by simp;omega) (by simpa using hL) (by simp;omega)];simp[Hr,Me,Dm]
theorem Oa{B:List Int}{T:List Aa}{v:Int}(hL:B.length<4611686018427387904){s cur:Nat}(hs:s≤8)(hc:cur+s≤B.length)(hr:T.length+s≤room) :
  Bp (cur:Int) (s:Int) v B T=some (T++Me true cur (Hr s v),Dm B cur (Hr s v)):=by
 unfold Bp;have:=Pi hs s 0 cur v T B (by omega) hc hL hr;rw[show((0:Nat):Int)=0 from rfl]at this;rw[this]
 rfl
def Ki(B:List Int)(s:Nat):Nat→Nat→List Int×Bool×List Aa
 | 0,_=>([],true,[])
 | n+1,cur=>if cur+s≤B.length then(Qj (Dc B cur s)::(Ki B s n (cur+s)).1,(Ki B s n (cur+s)).2.1,Me false cur (Dc B cur s)++(Ki B s n (cur+s)).2.2) else([],false,[])
def Di(s:Nat):List Int→Nat→List Int→Bool×List Aa×List Int
 | [],_,B=>(true,[],B)
 | v::l,cur,B=>if cur+s≤B.length then((Di s l (cur+s) (Dm B cur (Hr s v))).1,Me true cur (Hr s v)++(Di s l (cur+s) (Dm B cur (Hr s v))).2.1,(Di s l (cur+s) (Dm B cur (Hr s v))).2.2) else(false,[],B)
theorem Tp{B:List Int}{s:Nat}(n cur:Nat):(Ki B s n cur).2.2.length≤n*s:=by
 induction n generalizing cur with
 | zero=>simp[Ki]
 | succ n ih=>
  unfold Ki
  split
  ·have:=ih (cur+s);simp[I5,Kf ‹_›,Nat.succ_mul];omega
  ·simp
theorem Ph{s:Nat}(l:List Int)(cur:Nat)(B:List Int):(Di s l cur B).2.1.length≤l.length*s∧(Di s l cur B).2.2.length=B.length:=by
 induction l generalizing cur B with
 | nil=>simp[Di]
 | cons v l ih=>
  unfold Di
  split
  ·have:=ih (cur+s) (Dm B cur (Hr s v));rw[C8]at this;simp[I5,G4,Nat.succ_mul];omega
  ·simp
theorem Sm{s:Nat}(l:List Int)(cur:Nat){B:List Int}(hB:Gc B):Gc (Di s l cur B).2.2:=by
 induction l generalizing cur B with
 | nil=>simpa [Di] using hB
 | cons v l ih=>
  unfold Di
  split
  ·exact ih _ (Tn hB (Uh _ _))
  ·exact hB
def Oq(bits:Int):Bool:=bits==8 || bits==16 || bits==32 || bits==64
def Gv(bits n:Int):Bool:=Oq bits&&decide (0≤n)&&decide (n≤16)
theorem wdB_cases{bits:Int}(h:Oq bits=true):bits=8∨bits=16∨bits=32∨bits=64:=by
 simp only[Oq,Bool.or_eq_true,beq_iff_eq]at h;omega
theorem K8(bits:Int):Cc bits=some (bif Oq bits then bits / 8 else 0):=by
 by_cases h:Oq bits=true
 ·rw[h,cond_true];rcases wdB_cases h with rfl|rfl|rfl|rfl<;>decide
 ·have h':Oq bits=false:=by simpa using h
  rw[h',cond_false];simp only[Oq,Bool.or_eq_false_iff]at h';obtain⟨⟨⟨h1,h2⟩,h3⟩,h4⟩:=h';unfold Cc;rw[h1,cond_false,h2,cond_false,h3,cond_false,h4]
  rfl
theorem Vn(bits n:Int):Bj bits n=some (Gv bits n):=by
 unfold Bj Gv Oq
 generalize (bits==(8:Int))=b1
 generalize (bits==(16:Int))=b2
 generalize (bits==(32:Int))=b3
 generalize (bits==(64:Int))=b4
 generalize decide ((0:Int)≤n)=b5
 generalize decide (n≤(16:Int))=b6
 cases b1<;>cases b2<;>cases b3<;>cases b4<;>cases b5<;>cases b6<;>rfl
theorem Sl{bits:Int}(h:Oq bits=true):∃ s:Nat,bits / 8=(s:Int)∧1≤s∧s≤8∧bits=8*(s:Int)∧Oo (Int.tdiv bits 8)=(s:Int):=by
 rcases wdB_cases h with rfl|rfl|rfl|rfl
 ·exact⟨1,by decide,by decide,by decide,by decide,by decide⟩
 ·exact⟨2,by decide,by decide,by decide,by decide,by decide⟩
 ·exact⟨4,by decide,by decide,by decide,by decide,by decide⟩
 ·exact⟨8,by decide,by decide,by decide,by decide,by decide⟩
theorem I6{N s cur:Nat}(hs:1≤s):V7 N (cur:Int) (s:Int)=decide (cur+s≤N):=by
 unfold V7;rw[show decide (1≤(s:Int))=true from decide_eq_true (by omega),Bool.true_and];exact decide_eq_decide.2 (by omega)
theorem Sc{B:List Int}(hB:Gc B)(hL:B.length<4611686018427387904){s:Nat}(hs:s≤8)(hs1:1≤s){N:Nat}(hN:N≤16):∀(k i cur:Nat) (done:List Int) (t:List Aa),i+k=N→done.length=i→t.length+k*8≤room→
  Ce (A9 (N:Int) (s:Int)) ((cur:Int),(i:Int),done++List.replicate k 0,t,B) =
   some (if(Ki B s k cur).2.1=true then .inl (done++(Ki B s k cur).1,t++(Ki B s k cur).2.2,B) else .inr (t++(Ki B s k cur).2.2,B))
 | 0,i,cur,done,t,hi,hd,hr=>by
  obtain rfl:i=N:=by omega
  refine B5 ?_;unfold A9;simp only;rw[List.length_replicate,B6,Jf,cond_false];simp[Ki]
 | k+1,i,cur,done,t,hi,hd,hr=>by
  by_cases hc:cur+s≤B.length
  ·have step:A9 (N:Int) (s:Int) ((cur:Int),(i:Int),done++List.replicate (k+1) 0,t,B)=some (.next (((cur+s:Nat):Int),((i+1:Nat):Int),(done++[Qj (Dc B cur s)])++List.replicate k 0,t++Me false cur (Dc B cur s),B)):=by
    unfold A9;simp only;rw[List.length_replicate,B6,G6 (by omega),cond_true,F5 (by omega) hL,Option.bind_some,Ag rfl,I6 hs1];simp only;rw[show decide (cur+s≤B.length)=true from decide_eq_true (by omega),Bool.not_true,cond_false,P3 hB hL hs hc (by omega),Option.bind_some,Ag rfl,Ag (Px (by simp;omega)),w1 (by omega),Dp (n:=(s:Int)) (by omega) (by omega),Dp (by omega) (by omega),B6]
    have e:(done++List.replicate (k+1) (0:Int)).set i (Qj (Dc B cur s))=(done++[Qj (Dc B cur s)])++List.replicate k 0:=by
     rw[List.replicate_succ,List.set_append_right _ _ (by omega),hd,Nat.sub_self,List.set_cons_zero,List.append_assoc];rfl
    rw[e]
    simp
   rw[Dv step,Sc hB hL hs hs1 hN k (i+1) (cur+s) _ _ (by omega) (by simp[hd]) (by simp[I5,Kf hc];omega)];rw[Ki,if_pos hc];simp only[List.append_assoc,List.singleton_append]
  ·rw[Ki,if_neg hc];refine B5 ?_;unfold A9;simp only;rw[List.length_replicate,B6,G6 (by omega),cond_true,F5 (by omega) hL,Option.bind_some,Ag rfl,I6 hs1];simp only;rw[show decide (cur+s≤B.length)=false from decide_eq_false (by omega),Bool.not_false,cond_true]
   simp
def RD(a bits n:Int)(B:List Int)(T:List Aa):List Int×Int×List Aa×List Int:=
 if Gv bits n=true then(if(Ki B (bits / 8).toNat n.toNat a.toNat).2.1=true then((Ki B (bits / 8).toNat n.toNat a.toNat).1,0,T++(Ki B (bits / 8).toNat n.toNat a.toNat).2.2,B) else([],8,T++(Ki B (bits / 8).toNat n.toNat a.toNat).2.2,B)) else([],1,T,B)
theorem O8{bits n:Int}:(bif bif (bif Oq bits then bits / 8 else 0)==0 then true else decide (n<0) then true else decide (16<n)) = !Gv bits n:=by
 unfold Gv
 cases h:Oq bits with
 | false=>rfl
 | true=>
  obtain⟨s,h1,h2,h3,_⟩:=Sl h;rw[cond_true,h1,show((s:Int)==0)=false by simp;omega,cond_false,Bool.true_and]
  by_cases h4:n<0
  ·rw[decide_eq_true h4,cond_true,decide_eq_false (show ¬ (0≤n) by omega)];rfl
  ·rw[decide_eq_false h4,cond_false,decide_eq_true (show 0≤n by omega),Bool.true_and]
   by_cases h5:16<n
   ·rw[decide_eq_true h5,decide_eq_false (show ¬ n≤16 by omega)];rfl
   ·rw[decide_eq_false h5,decide_eq_true (show n≤16 by omega)];rfl
theorem N9{a bits n:Int}{B:List Int}{T:List Aa}(ha:0≤a)(hB:Gc B)(hL:B.length<4611686018427387904)(hr:T.length+128≤room):Bo a bits n B T=some (RD a bits n B T):=by
 unfold Bo RD;rw[K8,Option.bind_some,O8]
 cases hm:Gv bits n with
 | false=>simp[Ed]
 | true=>
  simp only[Gv,Bool.and_eq_true,decide_eq_true_iff]at hm;obtain⟨⟨hw,h0⟩,h1⟩:=hm;obtain⟨s,h2,h3,h4,h5,h6⟩:=Sl hw;obtain⟨N,rfl⟩:∃ N:Nat,n=N:=⟨n.toNat,by omega⟩;obtain⟨A,rfl⟩:∃ A:Nat,a=A:=⟨a.toNat,by omega⟩;rw[Bool.not_true,cond_false,hw,cond_true,h2,Ag ⟨h0,Int.le_refl _,by have:room=1099511627776:=rfl;omega⟩,B6,B6,B6];have:=Sc hB hL h4 h3 (N:=N) (by omega) N 0 A [] T (by omega) rfl (by omega);rw[List.nil_append,show((0:Nat):Int)=0 from rfl]at this;rw[this]
  by_cases hk:(Ki B s N A).2.1=true
  ·rw[if_pos hk,if_pos hk];rfl
  ·rw[if_neg hk,if_neg hk,Option.bind_some]
   show(Ed (some (.next _)) _).bind _=_
   unfold Ed;rw[Option.bind_some];simp only;rw[B5 (x:=(([]:List Int),(8:Int),T++(Ki B s N A).2.2,B)) rfl]
   rfl
theorem Sn{s:Nat}(hs:s≤8)(hs1:1≤s){L:List Int}(hN:L.length≤16):∀(k i cur:Nat) (t:List Aa) (B:List Int),i+k=L.length→B.length<4611686018427387904→t.length+k*8≤room→
  Ce (A5 L (s:Int)) ((cur:Int),(i:Int),t,B) =
   some (if(Di s (L.drop i) cur B).1=true then .inl (t++(Di s (L.drop i) cur B).2.1,(Di s (L.drop i) cur B).2.2) else .inr (t++(Di s (L.drop i) cur B).2.1,(Di s (L.drop i) cur B).2.2))
 | 0,i,cur,t,B,hi,hL,hr=>by
  obtain rfl:i=L.length:=by omega
  refine B5 ?_;unfold A5;simp only;rw[Jf,cond_false,List.drop_length];simp[Di]
 | k+1,i,cur,t,B,hi,hL,hr=>by
  have hd:L.drop i=L.getD i 0::L.drop (i+1):=by rw[List.drop_eq_getElem_cons (by omega),Cb _ _ _ (by omega)]
  by_cases hc:cur+s≤B.length
  ·have step:A5 L (s:Int) ((cur:Int),(i:Int),t,B)=some (.next (((cur+s:Nat):Int),((i+1:Nat):Int),t++Me true cur (Hr s (L.getD i 0)),Dm B cur (Hr s (L.getD i 0)))):=by
    unfold A5;simp only;rw[G6 (by omega),cond_true,Ag (Px (by omega)),F5 (by omega) hL,Option.bind_some,Ag rfl,I6 hs1];simp only;rw[show decide (cur+s≤B.length)=true from decide_eq_true (by omega),Bool.not_true,cond_false,B6,Oa hL hs hc (by omega),Option.bind_some,Ag (by rw[C8]),w1 (by omega),Dp (n:=(s:Int)) (by omega) (by omega),Dp (by omega) (by omega)]
    simp
   rw[Dv step,Sn hs hs1 hN k (i+1) (cur+s) _ _ (by omega) (by rw[C8];exact hL) (by simp[I5,G4];omega)];rw[hd,Di,if_pos hc];simp only[List.append_assoc]
  ·rw[hd,Di,if_neg hc];refine B5 ?_;unfold A5;simp only;rw[G6 (by omega),cond_true,Ag (Px (by omega)),F5 (by omega) hL,Option.bind_some,Ag rfl,I6 hs1];simp only;rw[show decide (cur+s≤B.length)=false from decide_eq_false (by omega),Bool.not_false,cond_true]
   simp
def WR(a bits:Int)(L:List Int)(B:List Int)(T:List Aa):Int×List Aa×List Int:=
 if Gv bits L.length=true then(if(Di (bits / 8).toNat L a.toNat B).1=true then 0 else 8,T++(Di (bits / 8).toNat L a.toNat B).2.1,(Di (bits / 8).toNat L a.toNat B).2.2) else(1,T,B)
theorem Ry{bits:Int}{n:Nat}:(bif (bif Oq bits then bits / 8 else 0)==0 then true else decide (16<(n:Int))) = !Gv bits n:=by
 rw[← O8,show decide ((n:Int)<0)=false from decide_eq_false (by omega)]
 cases(bif Oq bits then bits / 8 else 0)==0<;>rfl
theorem O7{a bits:Int}{L B:List Int}{T:List Aa}(ha:0≤a)(hL:B.length<4611686018427387904)(hr:T.length+128≤room):Bt a bits L B T=some (WR a bits L B T):=by
 unfold Bt WR;rw[K8,Option.bind_some,Ry]
 cases hm:Gv bits L.length with
 | false=>simp[Ed]
 | true=>
  simp only[Gv,Bool.and_eq_true,decide_eq_true_iff]at hm;obtain⟨⟨hw,h0⟩,h1⟩:=hm;obtain⟨s,h2,h3,h4,h5,h6⟩:=Sl hw;obtain⟨A,rfl⟩:∃ A:Nat,a=A:=⟨a.toNat,by omega⟩;rw[Bool.not_true,cond_false,hw,cond_true,h2,B6,B6];have:=Sn h4 h3 (L:=L) (by omega) L.length 0 A T B (by omega) hL (by omega);rw[List.drop_zero,show((0:Nat):Int)=0 from rfl]at this;rw[this]
  by_cases hk:(Di s L A B).1=true
  ·rw[if_pos hk,if_pos rfl,if_pos hk];rfl
  ·rw[if_neg hk,if_pos rfl,if_neg hk,Option.bind_some]
   show(Ed (some (.next _)) _).bind _=_
   unfold Ed;rw[Option.bind_some];simp only;rw[B5 (x:=((8:Int),T++(Di s L A B).2.1,(Di s L A B).2.2)) rfl]
   rfl
theorem F8:room=1099511627776:=rfl
theorem M5{b:List Int}(h:b.length≤4096):Ct b=some ((true,⟨b,[]⟩),0):=by
 unfold Ct As;rw[decide_eq_false (by omega),cond_false,Ag (by rw[F8];omega)]
 rfl
theorem P1{b:List Int}(h:4096<b.length):Ct b=some ((false,default),4):=by
 unfold Ct;rw[decide_eq_true (by omega),cond_true]
theorem O6{B:List Int}{T:List Aa}(h:B.length≤room):Bs B T=some (B,T,B):=by
 unfold Bs As;rw[Ag h];rfl
theorem Lz{B:List Int}{T:List Aa}(h:T.length≤room):Bh B T=some (T,T,B):=by
 unfold Bh Au;rw[Ag (by simpa using h)];rfl
theorem M6{l:List Int}(h:l.length<4611686018427387904):Be l l=some true:=by
 unfold Be;rw[show(((l.length:Int))!=(l.length:Int))=false by simp,cond_false]
 have:Ce (A6 l l) (0:Int)=some (.inl ()):=Jo _ (fun i:Nat=>(i:Int)) _ l.length (fun i hi=>by
  unfold A6
  rw[G6 hi,cond_true,Ag (Px hi),Ag (Px hi),show((l.getD ((i:Int)).toNat 0)!=l.getD ((i:Int)).toNat 0)=false by simp,cond_false,w1 (by omega)]) (by
  unfold A6
  rw[Jf,cond_false])
 rw[this];rfl
theorem Vm{v bits:Int}{s:Nat}(h0:0≤v)(h1:v<18446744073709551616)(hw:Oq bits=true)(hs:bits=8*(s:Int)):Bi v bits=some (v % 256 ^ s):=by
 have h2:=wdB_cases hw;unfold Bi Bz;rcases h2 with rfl|rfl|rfl|rfl
 ·obtain rfl:s=1:=by omega
  rw[show(256:Int) ^ 1=256 by decide];simp only[Option.bind_some]
  show(bif false then _ else bif false then _ else C0 _ (C0 _ (some (Int.tmod v (Ho .u64 1 (Ek 8))))))=_
  rw[cond_false,cond_false,show Ho .u64 1 (Ek 8)=256 by decide,Ag (by decide),Ag (by decide),Int.tmod_eq_emod_of_nonneg h0]
 ·obtain rfl:s=2:=by omega
  rw[show(256:Int) ^ 2=65536 by decide];simp only[Option.bind_some]
  show(bif false then _ else bif false then _ else C0 _ (C0 _ (some (Int.tmod v (Ho .u64 1 (Ek 16))))))=_
  rw[cond_false,cond_false,show Ho .u64 1 (Ek 16)=65536 by decide,Ag (by decide),Ag (by decide),Int.tmod_eq_emod_of_nonneg h0]
 ·obtain rfl:s=4:=by omega
  rw[show(256:Int) ^ 4=4294967296 by decide];simp only[Option.bind_some]
  show(bif false then _ else bif false then _ else C0 _ (C0 _ (some (Int.tmod v (Ho .u64 1 (Ek 32))))))=_
  rw[cond_false,cond_false,show Ho .u64 1 (Ek 32)=4294967296 by decide,Ag (by decide),Ag (by decide),Int.tmod_eq_emod_of_nonneg h0]
 ·obtain rfl:s=8:=by omega
  rw[show(256:Int) ^ 8=18446744073709551616 by decide,Int.emod_eq_of_lt h0 h1]
  rfl
theorem Qr:WR 2 16 [258] [9,9,9,9] []=(0,[⟨true,2,2⟩,⟨true,3,1⟩],[9,9,2,1]):=by decide
theorem Pl:RD 0 32 1 [9,9,2,1] [⟨true,2,2⟩,⟨true,3,1⟩]=([16910601],0,[⟨true,2,2⟩,⟨true,3,1⟩,⟨false,0,9⟩,⟨false,1,9⟩,⟨false,2,2⟩,⟨false,3,1⟩],[9,9,2,1]):=by decide
theorem Pm:RD 1 32 1 [9,9,2,1] [⟨true,2,2⟩,⟨true,3,1⟩,⟨false,0,9⟩,⟨false,1,9⟩,⟨false,2,2⟩,⟨false,3,1⟩]=([],8,[⟨true,2,2⟩,⟨true,3,1⟩,⟨false,0,9⟩,⟨false,1,9⟩,⟨false,2,2⟩,⟨false,3,1⟩],[9,9,2,1]):=by decide
theorem Lb:Gc [9,9,2,1]:=by unfold Gc;decide
theorem P2:m_locksteplaw12_awake=some true:=by
 unfold m_locksteplaw12_awake;rw[M5 (by decide),Option.bind_some]
 dsimp only
 rw[cond_true,show((0:Int)!=0)=false by decide,cond_false,O7 (by decide) (by decide) (by decide),Qr,Option.bind_some]
 dsimp only
 rw[Ag (by decide),N9 (by decide) Lb (by decide) (by decide),Pl,Option.bind_some]
 dsimp only
 rw[Ag (by decide),N9 (by decide) Lb (by decide) (by decide),Pm,Option.bind_some]
 dsimp only
 rw[Ag (by decide),O6 (by decide),Option.bind_some]
 dsimp only
 rw[Ag (by decide),Ag (by decide),Ag (by decide),Ag (by decide)];rw[Lz (by decide),Option.bind_some]
 dsimp only
 rw[Ag (by decide),F5 (by decide) (by decide),Option.bind_some]
 dsimp only
 rw[Ag (by decide),F5 (by decide) (by decide),Option.bind_some]
 dsimp only
 rw[Ag (by decide)]
 rfl
theorem Jq{bits n:Int}(h:Gv bits n=true):(bits / 8).toNat≤8∧n.toNat≤16:=by
 simp only[Gv,Bool.and_eq_true,decide_eq_true_iff]at h;obtain⟨⟨hw,h0⟩,h1⟩:=h;obtain⟨s,h2,h3,h4,_⟩:=Sl hw;omega
theorem Sx(a bits:Int)(L B:List Int)(T:List Aa):(WR a bits L B T).2.2.length=B.length∧(WR a bits L B T).2.1.length≤T.length+128∧(Gc B→Gc (WR a bits L B T).2.2):=by
 unfold WR
 split
 ·rename_i h
  obtain⟨h1,h2⟩:=Jq h;obtain⟨h3,h4⟩:=Ph (s:=(bits / 8).toNat) L a.toNat B;have h5:L.length*(bits / 8).toNat≤16*8:=Nat.mul_le_mul (by omega) h1;refine⟨h4,?_,fun hB=>Sm L _ hB⟩;rw[List.length_append];omega
 ·exact⟨rfl,by simp,id⟩
theorem Sw(a bits n:Int)(B:List Int)(T:List Aa):(RD a bits n B T).2.2.2=B∧(RD a bits n B T).2.2.1.length≤T.length+128:=by
 unfold RD
 split
 ·rename_i h
  obtain⟨h1,h2⟩:=Jq h;have h3:=Tp (B:=B) (s:=(bits / 8).toNat) n.toNat a.toNat;have h5:n.toNat*(bits / 8).toNat≤16*8:=Nat.mul_le_mul (by omega) h1
  split<;>(refine⟨rfl,?_⟩;rw[List.length_append];omega)
 ·exact⟨rfl,by simp⟩
theorem J3{B:List Int}{a cur:Nat}{l:List Int}(h:a<cur):(Dm B cur l).getD a 0=B.getD a 0:=by
 induction l generalizing B cur with
 | nil=>rfl
 | cons b l ih=>
  rw[Dm,ih (by omega)];simp[List.getD,List.getElem?_set_ne (show cur≠a by omega)]
theorem Tm{B:List Int}{cur k:Nat}{l:List Int}(h:k<l.length)(hc:cur+l.length≤B.length):(Dm B cur l).getD (cur+k) 0=l.getD k 0:=by
 induction l generalizing B cur k with
 | nil=>simp at h
 | cons b l ih=>
  rw[Dm];simp only[List.length_cons]at h hc
  cases k with
  | zero=>
   rw[Nat.add_zero,J3 (by omega)];simp[List.getD,show cur<B.length by omega]
  | succ k=>
   rw[show cur+(k+1)=cur+1+k by omega,ih (by omega) (by simp;omega)]
   simp
theorem Nl{B C:List Int}{cur:Nat}:∀(s:Nat),cur+s≤B.length→cur+s≤C.length→(∀ k,k<s→B.getD (cur+k) 0=C.getD (cur+k) 0)→Dc B cur s=Dc C cur s
 | 0,_,_,_=>by rw[H6,H6]
 | s+1,h1,h2,h=>by rw[Li (by omega),Li (by omega),Nl s (by omega) (by omega) fun k hk=>h k (by omega),h s (by omega)]
theorem Sj{B:List Int}{cur:Nat}{l:List Int}(hc:cur+l.length≤B.length):Dc (Dm B cur l) cur l.length=l:=by
 apply List.ext_getElem (by rw[Kf (by rw[C8];exact hc)])
 intro i h1 h2;have:=Tm h2 hc;simp only[Dc,List.getElem_take,List.getElem_drop];rw[Cb _ _ _ (by rw[C8];omega),Cb _ _ _ h2]at this;exact this
theorem So{s:Nat}(L:List Int)(cur:Nat)(B:List Int){a:Nat}(h:a<cur):(Di s L cur B).2.2.getD a 0=B.getD a 0:=by
 induction L generalizing cur B with
 | nil=>rfl
 | cons v L ih=>
  unfold Di
  split
  ·dsimp only
   rw[ih _ _ (by omega),J3 h]
  ·rfl
theorem Sb{s:Nat}(L:List Int)(cur:Nat)(B:List Int)(h:(Di s L cur B).1=true):(Ki (Di s L cur B).2.2 s L.length cur).1=L.map (fun v=>v % 256 ^ s)∧(Ki (Di s L cur B).2.2 s L.length cur).2.1=true:=by
 induction L generalizing cur B with
 | nil=>exact⟨rfl,rfl⟩
 | cons v L ih=>
  unfold Di at h ⊢
  split at h
  ·rename_i hc
   rw[if_pos hc]
   dsimp only at h ⊢
   obtain⟨i1,i2⟩:=ih _ _ h;have hl:=(Ph (s:=s) L (cur+s) (Dm B cur (Hr s v))).2;rw[C8]at hl
   generalize hC:(Di s L (cur+s) (Dm B cur (Hr s v))).2.2=C at *
   rw[List.length_cons,Ki,if_pos (by omega)];refine⟨?_,i2⟩
   have e:Dc C cur s=Hr s v:=by
    have h1:Dc (Dm B cur (Hr s v)) cur (Hr s v).length=Hr s v:=Sj (by rw[G4];exact hc);rw[G4]at h1;rw[← h1];refine Nl s (by omega) (by rw[C8];exact hc) fun k hk=>?_;rw[← hC];exact So _ _ _ (by omega)
   dsimp only
   rw[i1,e,Tf]
   rfl
  ·cases h
def Sr(B:List Int)(l:List Aa):List Int:=l.foldl (fun W x=>W.set x.At.toNat x.Byte) B
theorem S0(B:List Int)(cur:Nat)(l:List Int):Sr B (Me true cur l)=Dm B cur l:=by
 induction l generalizing B cur with
 | nil=>rfl
 | cons b l ih=>
  unfold Me Dm Sr;rw[List.foldl_cons];exact ih _ _
theorem Sz(B:List Int)(l:List Aa):(Sr B l).length=B.length:=by
 induction l generalizing B with
 | nil=>rfl
 | cons x l ih=>
  unfold Sr;rw[List.foldl_cons];exact(ih _).trans (by simp)
theorem Tw(w:Bool)(cur:Nat)(l:List Int):∀ x∈Me w cur l,x.Write=w∧(cur:Int)≤x.At∧x.At<(cur:Int)+l.length:=by
 induction l generalizing cur with
 | nil=>intro x hx;cases hx
 | cons b l ih=>
  intro x hx;rcases List.mem_cons.1 hx with rfl|hx
  ·exact⟨rfl,Int.le_refl _,by simp;omega⟩
  ·obtain⟨h1,h2,h3⟩:=ih _ x hx;exact⟨h1,by omega,by simp;omega⟩
theorem Sp{s:Nat}(L:List Int)(cur:Nat)(B:List Int):Sr B (Di s L cur B).2.1=(Di s L cur B).2.2∧∀ x∈(Di s L cur B).2.1,x.Write=true∧0≤x.At∧x.At<B.length:=by
 induction L generalizing cur B with
 | nil=>exact⟨rfl,fun x hx=>by cases hx⟩
 | cons v L ih=>
  unfold Di
  split
  ·rename_i hc
   obtain⟨i1,i2⟩:=ih (cur+s) (Dm B cur (Hr s v));rw[C8]at i2
   dsimp only
   refine⟨?_,fun x hx=>?_⟩
   ·unfold Sr;rw[List.foldl_append];have:=S0 B cur (Hr s v);unfold Sr at this;rw[this];exact i1
   ·rcases List.mem_append.1 hx with hx|hx
    ·obtain⟨h1,h2,h3⟩:=Tw _ _ _ x hx;rw[G4]at h3;exact⟨h1,by omega,by omega⟩
    ·exact i2 x hx
  ·exact⟨rfl,fun x hx=>by cases hx⟩
theorem Pt{b:List Int}{x:List Aa×List Aa×List Int}(hb:b.length<4611686018427387904)(ht:x.1.length<4611686018427387904)(h:∀ y∈x.1,y.Write=true∧0≤y.At∧y.At<b.length) :
  Ce (Ax b x) ((0:Int),b)=some (.inl (Sr b x.1)):=
 Jo _ (fun i:Nat=>((i:Int),Sr b (x.1.take i))) _ x.1.length (fun i hi=>by
  obtain⟨h1,h2,h3⟩:=h _ (Jh (d:=default) hi);unfold Ax
  dsimp only
  rw[G6 hi,cond_true,B6,Ag (Px hi),h1,Bool.not_true,Ag (fun _=>Px hi),cond_false,Dp (n:=(b.length:Int)) (by omega) (by omega),decide_eq_false (by omega),cond_false,Ag (Px hi),Ag (Px hi),Ag ⟨h2,by rw[Sz];exact h3⟩,w1 (by omega)];rw[Fu _ _ default hi];unfold Sr;rw[List.foldl_append]
  rfl) (by
  unfold Ax
  dsimp only
  rw[Jf,cond_false,List.take_length])
theorem Ro{d:TDo}{s:Nat}(hv:∀ v∈d.List,0≤v∧v<18446744073709551616)(hw:Oq d.Bits=true)(hs:d.Bits=8*(s:Int))(hl:d.List.length<4611686018427387904){x:List Int×Int×List Aa×List Int}(hx:x.1=d.List.map (fun v=>v % 256 ^ s)) :
  Ce (Ay d x) (0:Int)=some (.inl ()):=
 Jo _ (fun i:Nat=>(i:Int)) _ d.List.length (fun i hi=>by
  obtain⟨v0,v1⟩:=hv _ (Jh (d:=0) hi)
  have e:(d.List.map (fun v=>v % 256 ^ s)).getD i 0=d.List.getD i 0 % 256 ^ s:=by simp[List.getD,hi]
  unfold Ay
  rw[hx,List.length_map,G6 hi,cond_true,B6,Ag (Px hi),Ag (Px hi),Vm v0 v1 hw hs,Option.bind_some,e,show((d.List.getD i 0 % 256 ^ s)!=(d.List.getD i 0 % 256 ^ s))=false by simp,cond_false,w1 (by omega)]) (by
  unfold Ay
  rw[hx,List.length_map,Jf,cond_false])
theorem back12(b:List Int)(a:Int)(d:TDo)(hb:Gc b)(ha:0≤a∧a<18446744073709551616)(hv:∀ v∈d.List,0≤v∧v<18446744073709551616):Bg b a d=some true:=by
 unfold Bg;rw[P2,Option.bind_some,Bool.not_true,cond_false]
 by_cases h4:4096<b.length
 ·rw[P1 h4,Option.bind_some]
  dsimp only
  rw[cond_false,decide_eq_true (by omega)]
  rfl
 ·rw[M5 (by omega),Option.bind_some]
  dsimp only
  obtain⟨f1,f2,f3⟩:=Sx a d.Bits d.List b [];rw[cond_true,O7 ha.1 (by omega) (by rw[F8];simp),Option.bind_some,Ag f1.symm,Vn,Option.bind_some];rw[List.length_nil]at f2
  cases hm:Gv d.Bits d.List.length with
  | false=>
   have e:WR a d.Bits d.List b []=(1,[],b):=by unfold WR;rw[hm];rfl
   rw[e,Bool.not_false,cond_true]
   dsimp only
   rw[show((1:Int)==1)=true by decide,cond_true,Lz (by simp),Option.bind_some,Ag rfl]
   rfl
  | true=>
   obtain⟨hm1,hm2⟩:=Jq hm;have hm':=hm;simp only[Gv,Bool.and_eq_true,decide_eq_true_iff]at hm';obtain⟨⟨hw,h0⟩,h1⟩:=hm';obtain⟨s,h2,h3,h5,h6,h7⟩:=Sl hw
   have hs:(d.Bits / 8).toNat=s:=by omega
   have e:WR a d.Bits d.List b []=(if(Di s d.List a.toNat b).1=true then 0 else 8,(Di s d.List a.toNat b).2.1,(Di s d.List a.toNat b).2.2):=by unfold WR;rw[hm,if_pos rfl,hs,List.nil_append]
   obtain⟨t1,t2⟩:=Sp (s:=s) d.List a.toNat b;rw[e]at f1 f2;rw[e,Bool.not_true,cond_false]
   dsimp only at f1 f2 ⊢
   rw[Lz (by rw[F8];omega),Option.bind_some,Ag rfl,Ag (by rw[F8];omega)];rw[Pt (x:=((Di s d.List a.toNat b).2.1,(Di s d.List a.toNat b).2.1,(Di s d.List a.toNat b).2.2)) (by omega) (by dsimp only;omega) t2,Option.bind_some]
   dsimp only
   rw[t1,O6 (by rw[F8];omega),Option.bind_some,Ag rfl]
   dsimp only
   rw[M6 (by omega),Option.bind_some,Bool.not_true,cond_false]
   by_cases hk:(Di s d.List a.toNat b).1=true
   ·rw[if_pos hk,show((0:Int)!=0)=false by decide,cond_false];obtain⟨g1,g2⟩:=Sw a d.Bits d.List.length (Di s d.List a.toNat b).2.2 (Di s d.List a.toNat b).2.1;obtain⟨r1,r2⟩:=Sb d.List a.toNat b hk;rw[N9 ha.1 (Sm _ _ hb) (by omega) (by rw[F8];omega),Option.bind_some,Ag (by rw[g1])]
    have er:(RD a d.Bits d.List.length (Di s d.List a.toNat b).2.2 (Di s d.List a.toNat b).2.1).1=d.List.map (fun v=>v % 256 ^ s)∧(RD a d.Bits d.List.length (Di s d.List a.toNat b).2.2 (Di s d.List a.toNat b).2.1).2.1=0:=by
     unfold RD;rw[hm,if_pos rfl,hs,B6,if_pos r2];exact⟨r1,rfl⟩
    rw[er.2,show((0:Int)!=0)=false by decide,cond_false]
    have hlen:(((RD a d.Bits d.List.length (Di s d.List a.toNat b).2.2 (Di s d.List a.toNat b).2.1).1.length:Int)!=(d.List.length:Int))=false:=by rw[er.1,List.length_map];simp
    rw[hlen,cond_false,Ro hv hw h6 (by omega) er.1,Option.bind_some]
   ·rw[if_neg hk,show((8:Int)!=0)=true by decide,cond_true]
    rfl
theorem wf_u64{n:Int}(h:(Lit.int .u64 n).wf=true):0≤n∧n<18446744073709551616:=by simp[Lit.wf,IntKind.min,IntKind.max,IntKind.bits,IntKind.signed]at h;omega
theorem wf_u8{n:Int}(h:(Lit.int .u8 n).wf=true):0≤n∧n<256:=by simp[Lit.wf,IntKind.min,IntKind.max,IntKind.bits,IntKind.signed]at h;omega
abbrev Iall(w:World):Nat→Nat→Prop:=fun b o=>∃ u,w.cell? ⟨b,o,none⟩=some u
structure Qm(w:World)(cs:List Value)(avs:List AV):Prop where
 len:cs.length=avs.length
 one:∀ j,j<avs.length→(cs.getD j undef).oneCell'=true
 rep:∀ j,j<avs.length→RepV (Iall w) w (cs.getD j undef) (avs.getD j .any)
structure Opens(P:Program)(t:TypeId){α:Type}(e:α→List AV)(ok:α→Prop):Prop where
 get:∀{H:Type} {enc:TypeId×Value→H} {w:World} {base:Nat} {spare:Nat→Bool} {held:Bool} {fuel:Nat} {cs:List Value} {x:DataW H×List MemPlace},
  DataW.trod enc P w base spare held fuel t cs=some x→∃ a,ok a∧Qm w cs (e a)
theorem G5{w:World}{v:Value}{x:AV}(h1:v.oneCell'=true)(h:RepV (Iall w) w v x):Qm w [v] [x]:=
 ⟨rfl,fun j hj=>(by
   have hj0:j=0:=by simpa using hj
   subst hj0
   exact h1),fun j hj=>(by
   have hj0:j=0:=by simpa using hj
   subst hj0
   exact h)⟩
theorem H3{P:Program}{t:TypeId}{k:IntKind}{e:Int→List AV}(ht:P.underlying t=some (.int k))(he:∀ n,e n=[.int k n]):Opens P t e (fun n=>(Lit.int k n).wf=true):=by
 refine⟨?_⟩;intro H enc w base spare held fuel cs x h;obtain⟨n,rfl,rfl,hw⟩:=DataW.trod_int ht h;exact⟨n,hw,by rw[he];exact G5 rfl (.int _ _)⟩
theorem Og{P:Program}{t:TypeId}{e:Bool→List AV}(ht:P.underlying t=some .bool)(he:∀ n,e n=[.bool n]):Opens P t e (fun _=>True):=by
 refine⟨?_⟩;intro H enc w base spare held fuel cs x h;obtain⟨n,rfl,rfl⟩:=DataW.trod_bool ht h;exact⟨n,trivial,by rw[he];exact G5 rfl (.bool _)⟩
theorem N1{w:World}{base:Nat}{a:Addr}{n:Nat}{cs:List Value}(h:w.cells? base a n=some cs):cs.length=n∧∀ i,i<n→w.cell? (a.add i)=some (cs.getD i undef):=by
 unfold World.cells? at h
 split at h
 ·have hl:=mapM_some_length h;simp at hl;refine⟨hl,fun i hi=>?_⟩;have:=mapM_some_get h i i (by simp[hi]);rw[this];simp[List.getD,show i<cs.length by omega]
 ·cases h
theorem Ik{P:Program}{t el:TypeId}{α:Type}{e:α→List AV}{ok:α→Prop}{sz:Nat}{d:α}{e':List α→List AV}(ht:P.underlying t=some (.slice el))(hs:P.cellsOf el=sz)(h1:1≤sz)(he:Opens P el e ok)(hlen:∀ a,(e a).length=sz)
  (he':∀ l,e' l=[AV.list sz e d l .none]):Opens P t e' (fun l=>(∀ a∈l,ok a)∧l.length≤maxLen):=by
 refine⟨?_⟩;intro H enc w base spare held fuel cs x h;rcases DataW.trod_slice ht h with⟨rfl,rfl⟩|⟨a,len,cap,elems,rest,n,_,rfl,rfl,hb,hl,hm,hlen2,hel,_⟩
 ·exact⟨[],⟨by simp,by simp⟩,by rw[he'];exact G5 rfl (.slice none 0 0 sz _ (fun _=>undef) (Nat.le_refl _) (by simp) (fun h=>by simp at h) (fun _=>rfl) (fun j hj=>by simp at hj) (fun i hi=>by simp at hi) (fun i c hi=>by simp at hi))⟩
 ·have each:∀ i:Fin len,∃ b,ok b∧∃ cs,w.cells? base (a.add (i.1*sz)) sz=some cs∧Qm w cs (e b):=fun⟨i,hi⟩=>by
   have:=hel i hi;rw[hs,List.getElem?_eq_getElem (by omega),Option.bind_eq_some_iff]at this;obtain⟨cs,hcs,htr⟩:=this;obtain⟨b,hb,hr⟩:=he.get htr;exact⟨b,hb,cs,hcs,hr⟩
  let f:Fin len→α:=fun i=>(each i).choose
  have hf:∀ i,ok (f i)∧∃ cs,w.cells? base (a.add (i.1*sz)) sz=some cs∧Qm w cs (e (f i)):=fun i=>(each i).choose_spec
  have hlf:(List.ofFn f).length=len:=by simp
  refine⟨List.ofFn f,⟨fun b hb=>?_,by simp;omega⟩,?_⟩
  ·obtain⟨i,rfl⟩:=List.mem_ofFn.1 hb;exact(hf i).1
  rw[he'];refine G5 rfl ?_
  have hcell0:∀ i (hi:i<len),∀ c,c<sz→∃ u,w.cell? ((a.add (i*sz)).add c)=some u∧u.oneCell'=true∧RepV (Iall w) w u ((e (f ⟨i,hi⟩)).getD c .any):=fun i hi c hc=>by
   obtain⟨_,cs,hcs,hr⟩:=hf ⟨i,hi⟩;obtain⟨hl,hg⟩:=N1 hcs;exact⟨_,hg c hc,hr.one c (by rw[hlen];exact hc),hr.rep c (by rw[hlen];exact hc)⟩
  have hspot:0<len→a.spot=none:=fun hp=>by
   obtain⟨u,hu,_⟩:=hcell0 0 hp 0 h1;have h2:=World.cell?_spot hu
   simpa [Addr.add] using h2
  have hcell:∀ i (hi:i<len),∀ c,c<sz→∃ u,w.cell? ⟨a.block,a.off+(i*sz+c),none⟩=some u∧u.oneCell'=true∧RepV (Iall w) w u ((e (f ⟨i,hi⟩)).getD c .any):=fun i hi c hc=>by
   obtain⟨u,hu,h1,h2⟩:=hcell0 i hi c hc;have hsp:=hspot (by omega);rw[Cg hsp,Addr.add_lit]at hu;exact⟨u,by rw[← Nat.add_assoc];exact hu,h1,h2⟩
  have hdm:∀ j,j<len*sz→∃ i c,i<len∧c<sz∧j=i*sz+c:=fun j hj=>by
   refine⟨j / sz,j % sz,(Nat.div_lt_iff_lt_mul (by omega)).2 hj,Nat.mod_lt _ (by omega),?_⟩;rw[Nat.mul_comm];exact(Nat.div_add_mod j sz).symm
  unfold AV.list;rw[hlf];refine .slice (some a) len cap sz _ (fun j=>(w.cell? ⟨a.block,a.off+j,none⟩).getD undef) hl hm (fun hp=>⟨a,rfl,hspot hp,fun j hj=>?_,fun j hj=>?_⟩) (fun h=>by cases h) (fun j hj=>?_) (fun i hi=>hlen _) (fun i c hi hc=>?_)
  ·obtain⟨i,c,hi,hc,rfl⟩:=hdm j hj;obtain⟨u,hu,_⟩:=hcell i hi c hc;exact⟨u,hu⟩
  ·obtain⟨i,c,hi,hc,rfl⟩:=hdm j hj;obtain⟨u,hu,_⟩:=hcell i hi c hc;rw[hu];rfl
  ·obtain⟨i,c,hi,hc,rfl⟩:=hdm j hj;obtain⟨u,hu,h1,_⟩:=hcell i hi c hc;simp only[hu];exact h1
  ·obtain⟨u,hu,_,h2⟩:=hcell i hi c hc
   have e1:(List.ofFn f).getD i d=f ⟨i,hi⟩:=by simp[List.getD,hi]
   rw[e1,hu];exact h2
structure Ln(P:Program)(fs:List Field)(off N:Nat){α:Type}(e:α→List AV)(ok:α→Prop):Prop where
 get:∀{H:Type} {enc:TypeId×Value→H} {w:World} {base:Nat} {spare:Nat→Bool} {held:Bool} {n:Nat} {cs:List Value},cs.length=N→
  (∀ f∈fs,∃ x,DataW.trod enc P w base spare held n f.type ((cs.drop f.offset).take (P.cellsOf f.type))=some x)→∃ a,ok a∧Qm w (cs.drop off) (e a)
theorem Of{P:Program}{N:Nat}:Ln P [] N N (fun _:Unit=>[]) (fun _=>True):=by
 refine⟨?_⟩;intro H enc w base spare held n cs hN _;rw[List.drop_eq_nil_of_le (by omega)];exact⟨(),trivial,rfl,(fun j hj=>by simp at hj),(fun j hj=>by simp at hj)⟩
theorem C7{P:Program}{f:Field}{fs:List Field}{off sz N:Nat}{α β:Type}{e:α→List AV}{ok:α→Prop}{e':β→List AV}{ok':β→Prop}(hoff:f.offset=off)(hsz:P.cellsOf f.type=sz)(hle:off+sz≤N)
  (h:Opens P f.type e ok) (h':Ln P fs (off+sz) N e' ok'):Ln P (f::fs) off N (fun p:α×β=>e p.1++e' p.2) (fun p=>ok p.1∧ok' p.2):=by
 refine⟨?_⟩;intro H enc w base spare held n cs hN hall;obtain⟨x,hx⟩:=hall f (by simp);rw[hoff,hsz]at hx;obtain⟨a,ha,hr⟩:=h.get hx;obtain⟨b,hb,hr'⟩:=h'.get hN (fun g hg=>hall g (by simp[hg]))
 have hl:(e a).length=sz:=by rw[← hr.len];simp;omega
 have hl':(e' b).length=N-(off+sz):=by rw[← hr'.len];simp;omega
 have hsplit:cs.drop off=(cs.drop off).take sz++cs.drop (off+sz):=by rw[← List.drop_drop];exact(List.take_append_drop sz _).symm
 have hl2:((cs.drop off).take sz).length=sz:=by simp;omega
 refine⟨(a,b),⟨ha,hb⟩,?_,fun j hj=>?_,fun j hj=>?_⟩
 ·simp[hl,hl'];omega
 ·rw[hsplit];replace hj:j<(e a++e' b).length:=hj
  show _
  by_cases hlt:j<sz
  ·have:=hr.one j (by omega);rwa[List.getD,List.getElem?_append_left (by omega)]
  ·have:=hr'.one (j-sz) (by simp at hj;omega);rwa[List.getD,List.getElem?_append_right (by omega),hl2]
 ·rw[hsplit];replace hj:j<(e a++e' b).length:=hj
  show RepV (Iall w) w _ ((e a++e' b).getD j .any)
  by_cases hlt:j<sz
  ·have:=hr.rep j (by omega);rwa[List.getD,List.getElem?_append_left (by omega),List.getD,List.getElem?_append_left (by omega)]
  ·have:=hr'.rep (j-sz) (by simp at hj;omega);rwa[List.getD,List.getElem?_append_right (by omega),hl2,List.getD,List.getElem?_append_right (by omega),hl]
theorem L8{P:Program}{t:TypeId}{fs:Array Field}{N:Nat}{α:Type}{e:α→List AV}{ok:α→Prop}(ht:P.underlying t=some (.struct fs))(hN:P.cellsOf t=N)(h:Ln P fs.toList 0 N e ok):Opens P t e ok:=by
 refine⟨?_⟩;intro H enc w base spare held fuel cs x hx;obtain⟨xs,n,_,_,hl,hxl,hall⟩:=DataW.trod_struct ht hx
 have:=h.get (n:=n) (hl.trans hN) (enc:=enc) (w:=w) (base:=base) (spare:=spare) (held:=held) (fun f hf=>by
  obtain⟨i,hi,rfl⟩:=List.mem_iff_getElem.1 hf
  have hi':i<fs.size:=by simpa using hi
  have:=hall i fs.toList[i] (by simp[hi']);rw[List.getElem?_eq_getElem (by omega)]at this
  exact⟨_,this⟩)
 simpa using this
theorem Opens.to{P:Program}{t:TypeId}{α β:Type}{e:α→List AV}{ok:α→Prop}(h:Opens P t e ok){e':β→List AV}{ok':β→Prop}(g:α→β)(he:∀ a,e' (g a)=e a)(hok:∀ a,ok a→ok' (g a)):Opens P t e' ok':=by
 refine⟨?_⟩;intro H enc w base spare held fuel cs x hx;obtain⟨a,ha,hr⟩:=h.get hx;exact⟨g a,hok a ha,by rw[he];exact hr⟩
theorem arg_one{P:Program}{t:TypeId}{α:Type}{e:α→List AV}{ok:α→Prop}(h:Opens P t e ok){x:α→AV}(he:∀ a,e a=[x a]){H:Type}{enc:TypeId×Value→H}{w:World}{base:Nat}{spare:Nat→Bool}{held:Bool}{v:Value}{d:DataW H}{ps:List MemPlace}
  (hv:v.cells = #[v]) (hd:DataW.Trod enc P w base spare held t v d ps):∃ a,ok a∧RepV (Iall w) w v (x a):=by
 obtain⟨fuel,hf⟩:=hd;obtain⟨a,ha,hr⟩:=h.get hf;refine⟨a,ha,?_⟩;have:=hr.rep 0 (by simp[he])
 simpa [hv,he] using this
theorem arg_agg{P:Program}{t:TypeId}{α:Type}{e:α→List AV}{ok:α→Prop}(h:Opens P t e ok){H:Type}{enc:TypeId×Value→H}{w:World}{base:Nat}{spare:Nat→Bool}{held:Bool}{cs:Array Value}{d:DataW H}{ps:List MemPlace}
  (hd:DataW.Trod enc P w base spare held t (.agg cs) d ps):∃ a,ok a∧RepV (Iall w) w (.agg cs) (.agg (e a)):=by
 obtain⟨fuel,hf⟩:=hd;obtain⟨a,ha,hr⟩:=h.get hf;have e1:(Value.agg cs).cells.toList=cs.toList:=rfl;rw[e1]at hr
 have e2:∀ j,cs.toList.getD j undef=cs.getD j undef:=fun j=>by simp[Array.getD_eq_getD_getElem?,List.getD]
 refine⟨a,ha,.agg _ _ (by simpa using hr.len) (fun j hj=>?_) (fun j hj=>?_)⟩
 ·rw[← e2];exact hr.one j hj
 ·rw[← e2];exact hr.rep j hj
def Vp(n:Int):Prop:=(Lit.int .u8 n).wf=true
theorem Wl:Opens Try.prog 5 eU8 Vp:=H3 Try.underlying5 (fun _=>rfl)
def okLU8(l:List (Int)):Prop:=(∀ a∈l,Vp a)∧l.length≤maxLen
theorem op_22:Opens Try.prog 22 Wg okLU8:=Ik (d:=(0:Int)) Try.underlying22 (by kernel_rfl) (by decide) Wl (fun _=>rfl) (fun _=>rfl)
def W3(n:Bool):Prop:=True
theorem Wk:Opens Try.prog 4 eB W3:=Og Try.underlying4 (fun _=>rfl)
def okU64(n:Int):Prop:=(Lit.int .u64 n).wf=true
theorem op_33:Opens Try.prog 33 Cu okU64:=H3 Try.underlying33 (fun _=>rfl)
def R2(n:Int):Prop:=(Lit.int .i64 n).wf=true
theorem Vr:Opens Try.prog 3 Wf R2:=H3 Try.underlying3 (fun _=>rfl)
def R3(l:List (Int)):Prop:=(∀ a∈l,okU64 a)∧l.length≤maxLen
theorem Vs:Opens Try.prog 34 Ve R3:=Ik (d:=(0:Int)) Try.underlying34 (by kernel_rfl) (by decide) op_33 (fun _=>rfl) (fun _=>rfl)
def okTDo(a:TDo):Prop:=W3 a.Write∧okU64 a.At∧R2 a.Bits∧R2 a.N∧R3 a.List∧True
theorem op_36:Opens Try.prog 36 eTDo okTDo:=Opens.to (L8 (N:=5) Try.underlying36 (by kernel_rfl) (C7 (off:=0) (sz:=1) (N:=5) rfl (by kernel_rfl) (by decide) Wk (C7 (off:=1) (sz:=1) (N:=5) rfl (by kernel_rfl) (by decide) op_33 (C7 (off:=2) (sz:=1) (N:=5) rfl (by kernel_rfl) (by decide) Vr (C7 (off:=3) (sz:=1) (N:=5) rfl (by kernel_rfl) (by decide) Vr (C7 (off:=4) (sz:=1) (N:=5) rfl (by kernel_rfl) (by decide) Vs Of)))))) (fun p=>⟨p.1,p.2.1,p.2.2.1,p.2.2.2.1,p.2.2.2.2.1⟩) (fun _=>rfl) (fun _ h=>h)
end
end Go.Proofs.Ytbhekciniaeolaa
