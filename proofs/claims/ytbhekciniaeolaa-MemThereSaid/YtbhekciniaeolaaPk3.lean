/-
  The machine, the program's functions and the laws' arithmetic: part 3 of 3.
-/
import Derived.Test.YtbhekciniaeolaaPk2
import Derived.OpenShut
import Derived.ShutString
import Derived.Test.YtbhekciniaeolaaProg
set_option linter.unusedVariables false
set_option linter.unusedSimpArgs false
namespace Go.Proofs.Ytbhekciniaeolaa
noncomputable section
open Go Go.RowKit
inductive R9 where
 | nx (y:Code)
 | bl (id:Nat)
 | ag (c:Code) (n:Nat)
inductive C8 where
 | run (c:Code) (fs:List R9)
 | out (e:Exit) (fs:List R9)
def Pf(P:Program)(Γ:Cu)(K:Exit→St→Prop):List R9→Exit→St→Prop
 | []=>K
 | .nx y::fs=>Tp P Γ y (Pf P Γ K fs)
 | .bl id::fs=>Gd id (Pf P Γ K fs)
 | .ag c n::fs=>fun e st=>(e = .normal∧N6 P Γ c (Pf P Γ K fs) n st)∨(e≠.normal∧Pf P Γ K fs e st)
def GG(P:Program)(Γ:Cu)(K:Exit→St→Prop):C8→St→Prop
 | .run c fs,st=>E1 P Γ c (Pf P Γ K fs) st
 | .out e fs,st=>Pf P Γ K fs e st
def E4:Code→Nat→Nat
 | .exit i,k=>bif Nat.beq i k then 1 else 0
 | .seq a b,k=>Nat.min 2 (E4 a k+E4 b k)
 | .cond _ a b,k=>Nat.min 2 (E4 a k+E4 b k)
 | .loop c,k=>Nat.min 1 (E4 c k)
 | .scope c,k=>Nat.min 1 (E4 c k)
 | .block _ c,k=>E4 c k
 | _,_=>0
def Do:Code→Nat
 | .region _ _ _=>1
 | .skip=>1
 | .label _=>1
 | .seq a b=>bif Nat.beq (Do a) 0 then 0 else Do b
 | .cond _ a b=>Nat.min 2 (Do a+Do b)
 | .block i c=>Nat.min 2 (Do c+E4 c i)
 | .scope c=>Nat.min 2 (Do c)
 | _=>0
def Rd(a:Code):Bool:=match a with | .region _ _ _=>false|a=>Nat.ble 2 (Do a)
def I6:Nat→Code ⊕ Exit→List R9→C8
 | 0,.inl c,fs=>.run c fs
 | 0,.inr e,fs=>.out e fs
 | n+1,.inl c,fs=>
  match c with
  | .skip=>I6 n (.inr .normal) fs
  | .label _=>I6 n (.inr .normal) fs
  | .seq a b=>bif Rd a then .run (.seq a b) fs else I6 n (.inl a) (.nx b::fs)
  | .block id a=>I6 n (.inl a) (.bl id::fs)
  | .exit id=>I6 n (.inr (.exit id)) fs
  | .goto l=>I6 n (.inr (.goto l)) fs
  | .ret=>I6 n (.inr .ret) fs
  | c=>.run c fs
 | n+1,.inr e,fs=>
  match fs with
  | []=>.out e []
  | .nx y::fs=>(match e with | .normal=>I6 n (.inl y) fs|e=>I6 n (.inr e) fs)
  | .bl id::fs=>(match e with | .exit i=>bif Nat.beq i id then I6 n (.inr .normal) fs else I6 n (.inr (.exit i)) fs|e=>I6 n (.inr e) fs)
  | .ag c m::fs=>(match e with | .normal=>(match m with|0=>.out .normal (.ag c 0::fs)|m+1=>I6 n (.inl c) (.ag c m::fs))|e=>I6 n (.inr e) fs)
section
variable {P:Program} {Γ:Cu} {K:Exit→St→Prop}
theorem Aq:∀(n:Nat) (x:Code ⊕ Exit) (fs:List R9) (st:St),GG P Γ K (I6 n x fs) st→(match x with | .inl c=>E1 P Γ c (Pf P Γ K fs) st | .inr e=>Pf P Γ K fs e st)
 | 0,.inl c,fs,st,h=>h
 | 0,.inr e,fs,st,h=>h
 | n+1,.inl c,fs,st,h=>by
  cases c with
  | skip=>exact Qr (Aq n (.inr .normal) fs st h)
  | label l=>exact O9 (Aq n (.inr .normal) fs st h)
  | seq a b=>
   cases hj:Rd a with
   | true=>simp only[I6,hj,cond_true]at h;exact h
   | false=>simp only[I6,hj,cond_false]at h;exact N9 (Aq n (.inl a) (.nx b::fs) st h)
  | block id a=>exact O8 (Aq n (.inl a) (.bl id::fs) st h)
  | exit id=>exact Qk (Aq n (.inr (.exit id)) fs st h)
  | goto l=>exact Ql (Aq n (.inr (.goto l)) fs st h)
  | ret=>exact Sh (Aq n (.inr .ret) fs st h)
  | _=>exact h
 | n+1,.inr e,[],st,h=>h
 | n+1,.inr e,.nx y::fs,st,h=>by
  cases e with
  | normal=>exact Aq n (.inl y) fs st h
  | exit i=>exact Aq n (.inr (.exit i)) fs st h
  | goto l=>exact Aq n (.inr (.goto l)) fs st h
  | ret=>exact Aq n (.inr .ret) fs st h
  | panic c=>exact Aq n (.inr (.panic c)) fs st h
  | outgrown=>exact Aq n (.inr .outgrown) fs st h
 | n+1,.inr e,.bl id::fs,st,h=>by
  cases e with
  | normal=>exact Aq n (.inr .normal) fs st h
  | exit i=>
   show Gd id (Pf P Γ K fs) (.exit i) st
   cases hb:Nat.beq i id with
   | true=>
    obtain rfl:=Nat.eq_of_beq_eq_true hb;simp only[I6,hb,cond_true]at h;exact Nf (Aq n (.inr .normal) fs st h)
   | false=>
    simp only[I6,hb,cond_false]at h;exact Nd hb (Aq n (.inr (.exit i)) fs st h)
  | goto l=>exact Aq n (.inr (.goto l)) fs st h
  | ret=>exact Aq n (.inr .ret) fs st h
  | panic c=>exact Aq n (.inr (.panic c)) fs st h
  | outgrown=>exact Aq n (.inr .outgrown) fs st h
 | n+1,.inr e,.ag c m::fs,st,h=>by
  cases e with
  | normal=>
   cases m with
   | zero=>exact h
   | succ m=>exact .inl ⟨rfl,Aq n (.inl c) (.ag c m::fs) st h⟩
  | exit i=>exact .inr ⟨(by intro hh;cases hh),Aq n (.inr (.exit i)) fs st h⟩
  | goto l=>exact .inr ⟨(by intro hh;cases hh),Aq n (.inr (.goto l)) fs st h⟩
  | ret=>exact .inr ⟨(by intro hh;cases hh),Aq n (.inr .ret) fs st h⟩
  | panic ch=>exact .inr ⟨(by intro hh;cases hh),Aq n (.inr (.panic ch)) fs st h⟩
  | outgrown=>exact .inr ⟨(by intro hh;cases hh),Aq n (.inr .outgrown) fs st h⟩
theorem Cc{n:Nat}{c:Code}{fs:List R9}{st:St}(h:GG P Γ K (I6 n (.inl c) fs) st):E1 P Γ c (Pf P Γ K fs) st:=Aq n (.inl c) fs st h
theorem G2{n:Nat}{e:Exit}{fs:List R9}{st:St}(h:GG P Γ K (I6 n (.inr e) fs) st):Pf P Γ K fs e st:=Aq n (.inr e) fs st h
def Um(c:Code)(fs:List R9):C8:=I6 400 (.inl c) fs
def Vr(e:Exit)(fs:List R9):C8:=I6 400 (.inr e) fs
def Wa:C8→C8
 | .run _ fs=>Vr .normal fs
 | x=>x
def S4:C8→Option (List Oper×Bool)
 | .run (.region _ ops draw) _=>some (ops.toList,draw)
 | _=>none
def Uy(P:Program)(S:Gp)(n:Nat)(cs:List (Nat×AV))(live names:List Nat)(x:C8)(st:St)(rs:List Gm):Option (St×List Prop×Bool):=
 match S4 x with
 | some (ops,draw)=>Ib P S n cs live names ops draw st rs
 | none=>none
def Vv(P:Program)(S:Gp)(n:Nat)(cs:List (Nat×AV))(live names:List Nat)(x:C8)(st:St)(rs:List Gm):St:=
 match Uy P S n cs live names x st rs with
 | some r=>r.1
 | none=>st
def Un(r:Option (St×List Prop×Bool)):Option (Prop×Bool):=
 match r with
 | some r=>some (L6 r.2.1,r.2.2)
 | none=>none
theorem gR{x:C8}{st:St}{n:Nat}{H:List (Nat×Own)}(q:RgQ P Γ n H)(live names:List Nat)(cs:List (Nat×AV))(rs:List Gm){O:Prop}(hO:O)
  (k:GG P Γ K (Wa x) (Vv P (Spec P) n cs live names x st rs))
  (h:Un (Uy P (Spec P) n cs live names x st rs)=some (O,true):=by kernel_rfl) (hh:(H.all fun x=>Ce x.1 names)=true:=by kernel_rfl):GG P Γ K x st:=by
 unfold Uy at h;unfold Vv Uy at k
 cases x with
 | out e fs=>simp[S4,Un]at h
 | run c fs=>
  cases c with
  | region id ops draw=>
   simp only[S4]at h k
   cases hr:Ib P (Spec P) n cs live names ops.toList draw st rs with
   | none=>rw[hr]at h;simp[Un]at h
   | some r=>
    obtain⟨st',obs,d⟩:=r;rw[hr]at h k;simp only[Un,Option.some.injEq,Prod.mk.injEq]at h;obtain⟨rfl,rfl⟩:=h;have:=Nc (id:=id) (K:=Pf P Γ K fs) q.hn q.mix (q.hand hh) hr hO (G2 k);exact(by simpa using this:E1 P Γ (.region id ops draw) (Pf P Γ K fs) st)
  | _=>simp[S4,Un]at h
theorem Ct{x:C8}{st:St}{n:Nat}{H:List (Nat×Own)}(q:RgQ P Γ n H)(live names:List Nat)
  (k:GG P Γ K (Wa x) (Vv P (Spec P) n [] live names x st []))
  (h:Un (Uy P (Spec P) n [] live names x st [])=some (True,true):=by kernel_rfl) (hh:(H.all fun x=>Ce x.1 names)=true:=by kernel_rfl):GG P Γ K x st:=gR q live names [] [] trivial k h hh
def Tn:C8→Bool | .run _ _=>true|_=>false
theorem U0{x:C8}{st st':St}(h:Le Γ st st')
  (k:GG P Γ K x st')
  (hx:Tn x=true:=by kernel_rfl):GG P Γ K x st:=by
 cases x with
 | run c fs=>exact Qn h k
 | out e fs=>cases hx
theorem Sm{x:C8}{st:St}(st':St)
  (k:GG P Γ K x st')
  (h:st=st':=by kernel_rfl):GG P Γ K x st:=h▸k
def Qw(x:C8)(st:St):AV:=match x with | .run (.cond c _ _) _=>L9 st.get c|_=>.any
def Ux(b:Bool):C8→C8
 | .run (.cond _ c d) fs=>Um (bif b then c else d) fs
 | x=>x
theorem gC{x:C8}{st:St}{R:Type}{b:Bool}{m1 m2:Option R}{r:R}(h:(bif b then m1 else m2)=some r)
  (kt:m1=some r→GG P Γ K (Ux true x) st) (kf:m2=some r→GG P Γ K (Ux false x) st)
  (hv:Qw x st = .bool b:=by kernel_rfl):GG P Γ K x st:=by
 cases x with
 | out e fs=>cases hv
 | run c fs=>
  cases c with
  | cond c y z=>
   refine L4 b hv (fun hb=>Cc (n:=400) (kt ?_)) (fun hb=>Cc (n:=400) (kf ?_))
   ·subst hb;exact h
   ·subst hb;exact h
  | _=>cases hv
theorem Uk{x:C8}{st:St}(b:Bool)
  (k:GG P Γ K (Ux b x) st)
  (hv:Qw x st = .bool b:=by kernel_rfl):GG P Γ K x st:=by
 cases x with
 | out e fs=>cases hv
 | run c fs=>
  cases c with
  | cond c y z=>
   refine L4 b hv (fun hb=>Cc (n:=400) ?_) (fun hb=>Cc (n:=400) ?_)
   ·subst hb;exact k
   ·subst hb;exact k
  | _=>cases hv
theorem U1{x:C8}{st:St}(pos:Bool)(n:Nat)
  (kt:(pos=true→n=0)→GG P Γ K (Ux true x) st) (kf:(pos=false→n=0)→GG P Γ K (Ux false x) st)
  (hv:Qw x st = .nilq pos n:=by kernel_rfl):GG P Γ K x st:=by
 cases x with
 | out e fs=>cases hv
 | run c fs=>
  cases c with
  | cond c y z=>exact Qq pos n hv (fun hb=>Cc (n:=400) (kt hb)) (fun hb=>Cc (n:=400) (kf hb))
  | _=>cases hv
theorem gB{R:Type}{c:Bool}{m1 m2:Option R}{r:R}{G:Prop}(h:(bif c then m1 else m2)=some r)(kt:c=true→m1=some r→G)(kf:c=false→m2=some r→G):G:=by
 cases c with
 | true=>exact kt rfl h
 | false=>exact kf rfl h
theorem Vh(F:Bool→Prop){c b:Bool}(hs:c=b)(h:F c):F b:=hs▸h
theorem Bk{a b:Bool}(h:a=b):AVle (.bool a) (.bool b):=by rw[h];exact .refl _
theorem B0{p:Prop}(h:false=true):p:=Bool.noConfusion h
theorem V9{p:Prop}(h:true=false):p:=Bool.noConfusion h
theorem Oi{α:Type}{e:α→List AV}{d:α}{z:List AV}(h:z=e d){n N:Nat}:∀ k,k<N→z=e ((List.replicate n d).getD k d):=fun k _=>by
 have:(List.replicate n d).getD k d=d:=by
  rw[List.getD_eq_getElem?_getD,List.getElem?_replicate]
  by_cases hk:k<n<;>simp[hk]
 rw[this,h]
theorem gK{x:C8}{st:St}{e:Exit}(h:K e st)(hx:x = .out e []:=by kernel_rfl):GG P Γ K x st:=by subst hx;exact h
def aG(Γ:Cu)(e0:Exit)(og:St):Exit→St→Prop:=fun e st=>e=e0∧Le Γ st og
def aR(K:Exit→St→Prop):Exit→St→Prop:=fun e st=>e = .ret∧K e st
theorem R7{e0:Exit}{og st:St}(h:Le Γ st og):aG Γ e0 og e0 st:=⟨rfl,h⟩
theorem Uj{st:St}(h:K .ret st):aR K .ret st:=⟨rfl,h⟩
def Wd:Exit→Bool | .normal=>true|_=>false
theorem gN{S X:Type}{x:C8}{st:St}{H:S→St}{KX:X→Exit→St→Prop}{s':S}(h:Le Γ st (H s'))(hx:x = .out .normal []:=by kernel_rfl):GG P Γ (Ln Γ H KX (.next s')) x st:=by
 subst hx;exact⟨rfl,h⟩
theorem gO{S X:Type}{x:C8}{st:St}{H:S→St}{KX:X→Exit→St→Prop}{y:X}{e:Exit}(h:KX y e st)(hx:x = .out e []:=by kernel_rfl)(hn:Wd e=false:=by kernel_rfl):GG P Γ (Ln Γ H KX (.done y)) x st:=by
 subst hx;exact⟨(by rintro rfl;cases hn),h⟩
def fK(P:Program)(Γ:Cu)(rs:List ResultVar)(H:List (Nat×Own))(res:AV)(H':List (Nat×Own)):Exit→St→Prop:=V6 Γ (Vc P rs H res H')
theorem Pd{rs:List ResultVar}{H H':List (Nat×Own)}{res:AV}{st st':St}{e:Exit}(ρ:List (Nat×Nat))(hl:Le Γ st st')(hr:Or P rs ρ H st'=some (res,H'):=by kernel_rfl)
  (he:(match e with | .ret=>true | .normal=>true|_=>false)=true:=by kernel_rfl):fK P Γ rs H res H' e st:=by
 refine⟨st',hl,?_,ρ,hr⟩
 cases e with
 | ret=>exact .inl rfl
 | normal=>exact .inr rfl
 | _=>cases he
theorem Ha{rs:List ResultVar}{H H':List (Nat×Own)}{res:AV}{x:C8}{st:St}(ρ:List (Nat×Nat))(hr:Or P rs ρ H st=some (res,H'):=by kernel_rfl)
  (hx:x = .out .ret []:=by kernel_rfl):GG P Γ (fK P Γ rs H res H') x st:=gK (e:=.ret) (Pd ρ (Le.refl _ _) hr) hx
def Ng(fn:Func):Code:=match fn.body with|some c=>c|none=>.skip
theorem A8 {f : FuncId} {fn : Func} {args : List AV} {H H' : List (Nat × Own)} {res : AV} (hm : P.follows .mixedOrders = true) (hf : P.funcs[f]? = some fn)
    (k : ∀ Γ : Cu, RgQ P Γ fn.ntmps H → GG P Γ (fK P Γ fn.results.toList H res H') (Um (Ng fn) []) (Ix args H))
    (hb : fn.body.isSome = true := by kernel_rfl) (hname : (fn.name == "runtime.NumGoroutine") = false := by kernel_rfl) (hlen : Nat.ble args.length fn.ntmps = true := by kernel_rfl) (hpl : Lk H = true := by kernel_rfl) : Spec P f args H res H' := by
  obtain ⟨c, hc⟩ := Option.isSome_iff_exists.1 hb
  have e : Ng fn = c := by unfold Ng; rw [hc]
  refine Mv hf hc hname hlen (fun Γ hn hΓ => ?_) hpl; have := k Γ ⟨hn, hm, hΓ⟩; rw [e] at this; exact Tx (Cc this)
theorem T3{st st':St}(h:st=st'):Le Γ st st':=h▸Le.refl Γ st
def T0:C8→Bool | .run (.loop _) _=>true|_=>false
def Uw:C8→C8
 | .run (.loop c) _=>Um c []
 | x=>x
def U9(e:Exit):C8→C8
 | .run _ fs=>Vr e fs
 | x=>x
def Va{α:Type}(k:Nat)(x:α):List (Nat×α)→List (Nat×α)
 | []=>[(k,x)]
 | (k',y)::l=>bif Nat.beq k k' then(k,x)::l else bif Nat.blt k k' then(k,x)::(k',y)::l else(k',y)::Va k x l
def S6{α:Type}:List (Nat×α)→List (Nat×α)→List (Nat×α)
 | [],l=>l
 | (k,x)::r,l=>S6 r (Va k x l)
def Tq(st:St)(ts:List (Nat×AV))(os:List (Nat×Own))(fs:List (Nat×P4):=[]):St:=⟨S6 ts st.tmps,S6 os st.own,S6 fs st.fam⟩
def We(live names:List Nat)(st:St)(ts:List (Nat×AV))(os:List (Nat×Own))(fs:List (Nat×P4):=[]):St:=Bp live names (Tq st ts os fs)
theorem gL{S X:Type}{x:C8}{st:St}{n:Nat}{Hf:List (Nat×Own)}(q:RgQ P Γ n Hf){f:S→Option (LR S X)}{s0:S}{y:X}(hx:Dc f s0=some y)(live names:List Nat)(H:St→S→St)(KX:St→X→Exit→St→Prop)
  (kb:∀ s y,f s=some y→GG P Γ (Ln Γ (H (Bp live names st)) (KX (Bp live names st)) y) (Uw x) (H (Bp live names st) s)) (ko:∀ e st',KX (Bp live names st) y e st'→GG P Γ K (U9 e x) st')
  (h0:Bp live names st=H (Bp live names st) s0:=by kernel_rfl) (hl:T0 x=true:=by kernel_rfl) (hh:(Hf.all fun x=>Ce x.1 names)=true:=by kernel_rfl):GG P Γ K x st:=by
 cases x with
 | out e fs=>cases hl
 | run c fs=>
  cases c with
  | loop c=>
   refine Qn (st':=H (Bp live names st) s0) ?_ (Qo (H (Bp live names st)) f (KX (Bp live names st)) (fun s y hy=>Cc (kb s y hy)) hx fun e st' hk=>G2 (ko e st' hk));rw[← h0];exact Jy live names q rfl hh
  | _=>cases hl
theorem gA{x:C8}{f:Exit→C8→C8}{e0:Exit}{og:St}
  (k:GG P Γ K (f e0 x) og)
  (hr:Tn (f e0 x)=true:=by kernel_rfl):∀ e st',aG Γ e0 og e st'→GG P Γ K (f e x) st':=by
 rintro e st' ⟨rfl,hl⟩;exact U0 hl k hr
theorem Vs{x:C8}{f:Exit→C8→C8}{e0:Exit}{og:St}(k:∀ st',Le Γ st' og→GG P Γ K (f e0 x) st'):∀ e st',aG Γ e0 og e st'→GG P Γ K (f e x) st':=by
 rintro e st' ⟨rfl,hl⟩;exact k st' hl
theorem V7{x:C8}{f:Exit→C8→C8}{K':Exit→St→Prop}(k:∀ st',K' .ret st'→GG P Γ K (f .ret x) st'):∀ e st',aR K' e st'→GG P Γ K (f e x) st':=by
 rintro e st' ⟨rfl,hl⟩;exact k st' hl
def U4:C8→Bool | .run (.seq _ _) _=>true|_=>false
def U2:C8→C8
 | .run (.seq a _) _=>Um a []
 | x=>x
def Vb(e:Exit):C8→C8
 | .run (.seq _ b) fs=>Vr e (.nx b::fs)
 | x=>x
theorem gJ{X:Type}{x:C8}{st:St}{m:Option X}{y:X}(hx:m=some y)(KX:X→Exit→St→Prop)
  (kb:∀ y,m=some y→GG P Γ (KX y) (U2 x) st) (ko:∀ e st',KX y e st'→GG P Γ K (Vb e x) st')
  (hs:U4 x=true:=by kernel_rfl):GG P Γ K x st:=by
 cases x with
 | out e fs=>cases hs
 | run c fs=>
  cases c with
  | seq a b=>exact N9 (Qm KX hx (fun y hy=>Cc (kb y hy)) fun e st' hk=>G2 (ko e st' hk))
  | _=>cases hs
def Sr:C8→Bool | .run (.scope _) _=>true|_=>false
def Vd:C8→Code | .run (.scope c) _=>c|_=>.skip
def U5(c:Code)(l:Nat):C8:=Um ((findLabel c l).getD .skip) []
theorem gS{S X:Type}{x:C8}{st:St}{f0:Option (LR S X)}{f:S→Option (LR S X)}{y:X}(hx:D5 f0 f=some y)(lab:S→Nat)(H:S→St)(KX:X→Exit→St→Prop)
  (k0:∀ y,f0=some y→GG P Γ (Iz Γ (Vd x) lab H KX y) (Um (Vd x) []) st) (kb:∀ s y,f s=some y→GG P Γ (Iz Γ (Vd x) lab H KX y) (U5 (Vd x) (lab s)) (H s)) (ko:∀ e st',KX y e st'→GG P Γ K (U9 e x) st')
  (hs:Sr x=true:=by kernel_rfl):GG P Γ K x st:=by
 cases x with
 | out e fs=>cases hs
 | run c fs=>
  cases c with
  | scope c=>
   refine Pa lab H f0 f KX (fun y hy=>Cc (k0 y hy)) (fun s y rest hf hy=>?_) hx fun e st' hk=>G2 (ko e st' hk);have:=kb s y hy;unfold U5 Vd at this;rw[hf]at this;exact Cc this
  | _=>cases hs
theorem V8{S X:Type}{x:C8}{st:St}{c:Code}{lab:S→Nat}{H:S→St}{KX:X→Exit→St→Prop}{s':S}(h:Le Γ st (H s'))(hx:x = .out (.goto (lab s')) []:=by kernel_rfl)(hf:(findLabel c (lab s')).isSome=true:=by kernel_rfl) :
  GG P Γ (Iz Γ c lab H KX (.next s')) x st:=by
 subst hx;exact⟨rfl,hf,h⟩
theorem Ul{S X:Type}{x:C8}{st:St}{c:Code}{lab:S→Nat}{H:S→St}{KX:X→Exit→St→Prop}{y:X}{e:Exit}(h:KX y e st)(hx:x = .out e []:=by kernel_rfl)
  (hf:(match e with | .goto l=>(findLabel c l).isNone|_=>true)=true:=by kernel_rfl):GG P Γ (Iz Γ c lab H KX (.done y)) x st:=by
 subst hx;refine⟨?_,h⟩;rintro l rfl
 simpa using hf
theorem Vu{α:Type}{st:St}(U:α→St→St){a b:α}(h:a=b)(h1:st=U a st:=by kernel_rfl):Le Γ st (U b st):=by subst h;exact T3 h1
def Own.withF(g:Nat→List AV):Own→Own
 | .arr sz e n _=>.arr sz e n g
 | o=>o
def Tk(st:St)(nm:Nat):Option (Nat×(Nat→List AV)):=match Ab st.own nm with|some (.arr _ _ n f)=>some (n,f)|_=>none
def Ve(nm:Nat)(g:Nat→List AV)(st:St):St:=⟨st.tmps,(match Ab st.own nm with|some o=>Cj st.own nm (o.withF g)|none=>st.own),st.fam⟩
theorem Jd{nm sz n:Nat}{e:TypeId}{f g:Nat→List AV}(hp:∀ k,k<n→AVleL (f k) (g k)):∀{l:List (Nat×Own)},Ab l nm=some (.arr sz e n f)→OwnsLe l (Cj l nm (.arr sz e n g))
 | [],h=>by cases h
 | (k,o)::l,h=>by
  simp only[Ab]at h;simp only[Cj]
  cases hb:Nat.beq k nm with
  | true=>
   obtain rfl:=Nat.eq_of_beq_eq_true hb;rw[hb]at h;simp only[cond_true,Option.some.injEq]at h;subst h;exact .arr hp (.refl _)
  | false=>
   rw[hb]at h;exact .same (Jd hp h)
theorem Vt{st:St}(nm:Nat){n:Nat}{f g:Nat→List AV}(hp:∀ k,k<n→AVleL (f k) (g k))(h:Tk st nm=some (n,f):=by kernel_rfl):Le Γ st (Ve nm g st):=by
 unfold Tk at h;unfold Ve
 cases ho:Ab st.own nm with
 | none=>rw[ho]at h;cases h
 | some o=>
  rw[ho]at h
  cases o with
  | arr sz e n' f'=>
   simp only[Option.some.injEq,Prod.mk.injEq]at h;obtain⟨rfl,rfl⟩:=h;exact U6 (TmpsLe.refl _) (Jd hp ho)
  | _=>cases h
theorem gI(g:Bool):g=true→g=true:=id
theorem Gh(c:Bool):c=true→(c==true)=true:=gT
theorem Tm(c:Bool):c=false→(c==false)=true:=gF
theorem Gr{α:Type}(sz:Nat)(e:α→List AV)(d:α)(l:List α):AVle (.slice sz l.length (fun i=>(l.map e).getD i []) .exact) (AV.list sz e d l .exact):=Nb rfl fun i h=>Sy l i h
theorem Co{α:Type}(sz:Nat)(e:α→List AV)(d:α):AVle (.slice 0 0 (fun _=>[]) .exact) (AV.list sz e d [] .exact):=Qj
theorem K2{α:Type}(sz nm:Nat)(e:α→List AV)(d:α)(l m:List α):AVle (.slice sz (l.length+m.length) (Cv l.length (fun i=>e (l.getD i d)) (fun i=>e (m.getD i d))) (.own nm)) (AV.list sz e d (l++m) (.own nm)):=Tw
theorem T1{st st':St}(h:st=st':=by kernel_rfl):Le Γ st st':=h▸Le.refl Γ st
theorem ci{p q:Prop}(a:p)(b:q):p∧q:=⟨a,b⟩
theorem c1{p:Prop}(a:p):p∧True:=⟨a,trivial⟩
end
set_option maxRecDepth 100000
set_option maxHeartbeats 2000000
def C2(x:Int):List AV:=[(.int .u64 x)]
structure Wf where
 Write:Bool
 At:Int
 Bits:Int
 N:Int
 List:List Int
 deriving Inhabited,DecidableEq
def Cn(x:Int):List AV:=[(.int .u8 x)]
structure Aa where
 Write:Bool
 At:Int
 Byte:Int
 deriving Inhabited,DecidableEq
def Ah(x:Aa):List AV:=[(.bool x.Write),(.int .u64 x.At),(.int .u8 x.Byte)]
structure J7 where
 bytes:List Int
 trace:List Aa
 deriving Inhabited,DecidableEq
def Vq(x:Int):List AV:=[(.int .u16 x)]
def eA2U8(x:(Int×Int)):List AV:=[(.int .u8 x.1),(.int .u8 x.2)]
theorem mix:Try.prog.follows .mixedOrders=true:=by kernel_rfl
def Q3:AV:=(AV.list 1 Cn 0 ([]:List Int) .exact)
def Q4:=(⟨[(2,(.vsl 36002 ([]:List Int).length))],[(36002,.arr 1 5 (([]:List Int).length) (fun i=>Cn (([]:List Int).getD i 0)))],[]⟩:St)
def Z1:=fun za (zb:List Int)=>((za,.arr 1 5 zb.length (fun i=>Cn (zb.getD i 0))):Nat×Own)
def Z2:=fun za zb zc zd zf=>((za,.row 63 [(.vsl zb zc),(AV.list 3 Ah default zd (.own zf))]):Nat×Own)
def Z3:=fun za zb=>(⟨[(26,30000),(60026000,35000)],[],(.bool za),zb,[]⟩:Gm)
def Z4:=fun za zb zc zd=>([(Z2 30000 35000 za zb 37001),(37001,.tok 3 49 zc),(Z1 35000 zd)]:List (Nat×Own))
def Z5:=fun za zb zc zd=>((za,.row 63 [(.vsl zb zc),(AV.list 3 Ah default zd .none)]):Nat×Own)
def Z6:=fun za zb zc zd=>(⟨[],[(Z2 30000 35000 za zb 37001),(Z1 35000 zc),(37001,.tok 3 49 zd)],[]⟩:St)
def Z7:=(⟨[],[],(.bool false),[],[]⟩:Gm)
def Z8:=((AV.list 3 Ah default ([]:List Aa) .exact):AV)
def Z9:=fun za zb zc zd zf zg zm zn=>(⟨[(11,30000),(60011001,37001),(60011000,35000)],[(20000,za)],(.tuple [(AV.list 1 C2 0 zb (.own 20000)),(.int .i64 zc)]),[(Z2 30000 35000 zd zf 37001),(37001,.tok 3 49 zg),(Z1 35000 zm),(20000,.tok 1 33 zn)],[]⟩:Gm)
def Ts:=fun za zb zc zd zf zg zm=>([(Z2 za zb zc zd zf),(Z1 zb zg),(zf,.tok 3 49 zm)]:List (Nat×Own))
def Vm:=fun za zb=>(⟨[(11,30000),(60011001,37001),(60011000,35000)],[(20000,75)],za,zb,[]⟩:Gm)
def Uu:=fun za=>((AV.list 3 Ah default za (.own 20000)):AV)
def V5:=fun za zb=>([(29,(AV.list 3 Ah default za .exact)),(30,(AV.list 3 Ah default (zb++za) (.own 37001)))]:List (Nat×AV))
def O5:=fun za zb=>((Z2 30000 35000 za zb 37001):Nat×Own)
def Vn:=fun za zb=>(⟨[(11,30000),(60011001,37001),(60011000,35000)],[],(.bool za),zb,[]⟩:Gm)
def Vo:=((AV.list 3 Ah default ([]:List Aa) .none):AV)
def Mz:=fun za=>((za,(.bool true)):Nat×AV)
def Ia:=fun za=>((.int .i64 za):AV)
def Se:=((.int .i64 (0:Int)):AV)
def Ti:=((.int .u64 (3:Int)):AV)
def Uv:=fun za=>((AV.list 1 Cn 0 za (.own 20000)):AV)

def Ai(a7:List Int):Option (List Int):=
 (D6 (a7.length≤room) (some a7))
theorem Bf(a7:List Int)(r:List Int)(h:Ai a7=some r):Spec Try.prog 24 [(AV.list 1 Cn 0 a7 .none)] [] (.vsl 20000 r.length) [(20000,.arr 1 5 r.length (fun i=>Cn (r.getD i 0)))]:=by
 refine A8 mix Try.func24 (fun Γ hq=>?_);unfold Ai at h;refine gR hq [0] [] [(2,Q3)] [] (c1 (Co 1 Cn (0:Int))) ?_;refine Ct hq [0,4] [] ?_;refine U1 true a7.length (fun hb=>?_) (fun hb=>?_)
 ·replace h:=Rm (some ([]:List Int)) (fun(l2:List Int)=>(D6 (l2.length≤room) (some l2))) h (hb rfl) rfl (fun h0=>by first|exact h0|simpa [D6,room] using h0);clear hb;refine gR hq [2] [] [(2,Q3)] [] (c1 (Co 1 Cn (0:Int))) ?_;refine Sm (⟨[(2,Q3)],[],[]⟩:St) ?_;cases h;exact gK (e:=.ret) (Pd [(36002,20000)] (show Le Γ _ Q4 from Le.trans (Jy (st':=⟨[(2,Q3)],[],[]⟩) [2] [] hq) (Le.trans (T2 (t:=2) (nm:=36002) (sz':=1) (fun i=>Cn (([]:List Int).getD i 0)) 5 rfl rfl) (Jy (st':=Q4) [2] [36002] hq))))
 ·clear hb;obtain⟨hc1,h⟩:=Ap h;refine gR hq [2] [7] [(5,Q3),(7,.vsl 7 0)] [] (ci (show(AVle (.slice 1 0 (fun i=>([]:List (List AV)).getD i []) .exact) Q3) from Nb rfl (fun i hi=>absurd hi (Nat.not_lt_zero i))) (c1 hc1)) ?_;obtain rfl:=OI h;exact Ha [(7,20000)]
def Q6(x1:List Int):List AV:=[(.vsl 8 x1.length),Z8]
def Q7(x1:List Int):=(⟨[(2,(.ptr 10 0)),(3,Se)],[(8,.arr 1 5 x1.length (fun i=>Cn (x1.getD i 0))),(10,.row 63 (Q6 x1))],[]⟩:St)
def Q5(x1:List Int):=(⟨[(2,(.ptr 10 0)),(3,Se)],[(8,.arr 1 5 x1.length (fun i=>Cn (x1.getD i 0))),(10,.row 63 [(.vsl 8 x1.length),(AV.list 3 Ah default ([]:List Aa) (.own 6102001))]),(6102001,.tok 3 49 (([]:List Aa).length))],[]⟩:St)
def Dj(aA:List Int):Option ((Bool×J7)×Int):=
 (bif (decide (((4096:Int):Int)<(aA.length:Int))) then(some ((false,(default:J7)),(4:Int))) else((Ai aA).bind fun x1=>(some ((true,(⟨x1,([]:List Aa)⟩:J7)),(0:Int)))))
theorem Eo(aA:List Int)(r:((Bool×J7)×Int))(h:Dj aA=some r):Spec Try.prog 10 [(AV.list 1 Cn 0 aA .none)] [] (.tuple [(bif r.1.1 then((.ptr 20000 0):AV) else .nilp),(.int .i64 r.2)]) (bif r.1.1 then[(20000,.row 63 [(.vsl 21000 r.1.2.bytes.length),(AV.list 3 Ah default r.1.2.trace (.own 21001))]),(21000,.arr 1 5 r.1.2.bytes.length (fun i=>Cn (r.1.2.bytes.getD i 0))),(21001,.tok 3 49 r.1.2.trace.length)] else[]):=by
 refine A8 mix Try.func10 (fun Γ hq=>?_);unfold Dj at h;refine Ct hq [0] [] ?_;refine Ct hq [0,6] [] ?_;refine gC h (fun h=>?_) (fun h=>?_)
 ·refine Ct hq [2,3] [] ?_;cases h;exact Ha []
 ·obtain⟨x1,hx1,h⟩:=bind_some h;refine gR hq [2,3] [8,10] [(9,(.agg (Q6 x1)))] [⟨[],[(20000,8)],(.vsl 20000 x1.length),[(Z1 20000 x1)],[]⟩] (ci (Bf aA x1 hx1) (c1 (show(AVle (.agg [(.vsl 8 x1.length),(.slice 0 0 (fun _=>[]) .exact)]) (.agg (Q6 x1))) from(AVle.agg (.cons (AVle.refl _) (.cons Qj .nil)))))) ?_;refine Sm (Q7 x1) ?_;cases h;exact gK (e:=.ret) (Pd [(10,20000),(8,21000),(6102001,21001)] (show Le Γ _ (Q5 x1) from Le.trans (Jy (st':=(Q7 x1)) [2,3] [8,10] hq) (Le.trans (Md (r:=10) (j:=1) (nm:=6102001) (sz':=3) (fun i=>Ah (([]:List Aa).getD i default)) 49 rfl rfl (nl rfl) rfl (.inl ⟨rfl,rfl⟩) (fun h_=>absurd h_ (by decide))) (Jy (st':=(Q5 x1)) [2,3] [8,10,6102001] hq))))
def B7(a5:Int):Option Int:=
 (Option.bind (α:=Bool) (bif (a5==8) then(some (a5==8)) else(bif (a5==16) then(some (a5==16)) else(bif (a5==32) then(some (a5==32)) else(some (a5==64))))) (fun x2=>(bif x2 then(some (Eb (Int.tdiv a5 (8:Int)))) else(some (0:Int)))))
theorem Fd(a5:Int)(r:Int)(h:B7 a5=some r):Spec Try.prog 25 [(.int .i64 a5)] [] (.int .i64 r) []:=by
 refine A8 mix Try.func25 (fun Γ hq=>?_);unfold B7 at h;refine Ct hq [0] [] ?_;refine Ct hq [0,3] [] ?_;obtain⟨x2,hx2,h⟩:=bind_some h;refine gJ hx2 (fun b1=>aG Γ .normal (⟨[(0,(Ia a5)),(4,(.bool b1))],[],[]⟩:St)) ?_ ?_
 ·clear h hx2;intro y h;refine Ct hq [0,3,4] [] ?_;refine gC h (fun h=>?_) (fun h=>?_)
  ·cases h;exact gK (R7 (Jy [0,4] [] hq))
  ·refine Ct hq [0,3,4] [] ?_;refine gC h (fun h=>?_) (fun h=>?_)
   ·cases h;exact gK (R7 (Jy [0,4] [] hq))
   ·refine Ct hq [0,3,4] [] ?_;refine gC h (fun h=>?_) (fun h=>?_)
    ·cases h;exact gK (R7 (Jy [0,4] [] hq))
    ·refine Ct hq [0,4] [] ?_;cases h;exact gK (R7 T1)
 ·clear hx2;refine gA ?_;refine gC h (fun h=>?_) (fun h=>?_)
  ·refine gR hq [2] [] [] [] (c1 (show((8:Int)≠0) from(by decide))) ?_;cases h;exact Ha []
  ·refine Ct hq [2] [] ?_;cases h;exact Ha []
def Q8(a1:Int):=((bif false then true else(decide (a1<1)))==false)
def A9(a3:Int)(a1:Int)(a0:List Int)(a2:List Aa):Option (Bool×List Aa×List Int):=
 (bif (bif (bif false then true else(decide (a1<1))) then true else(decide (((a0.length:Int):Int)<a1))) then(some (false,a2,a0)) else(some ((decide (a3≤(Et (Eb ((a0.length:Int)-a1))))),a2,a0)))
theorem Bw(a3:Int)(a1:Int)(a0:List Int)(a2:List Aa)(r:(Bool×List Aa×List Int))(h:A9 a3 a1 a0 a2=some r):Spec Try.prog 16 [(.ptr 30000 0),(.int .u64 a3),(.int .i64 a1)] [(30000,.row 63 [(.vsl 35000 a0.length),(AV.list 3 Ah default a2 (.own 37001))]),(37001,.tok 3 49 a2.length),(35000,.arr 1 5 a0.length (fun i=>Cn (a0.getD i 0)))] (.bool r.1) [(30000,.row 63 [(.vsl 35000 r.2.2.length),(AV.list 3 Ah default r.2.1 (.own 37001))]),(37001,.tok 3 49 r.2.1.length),(35000,.arr 1 5 r.2.2.length (fun i=>Cn (r.2.2.getD i 0)))]:=by
 refine A8 mix Try.func16 (fun Γ hq=>?_);unfold A9 at h;refine Ct hq [0,1,2] [30000,35000,37001] ?_;refine gR hq [0,1,2,21] [30000,35000,37001] [] [] (ci (gI (false==false)) (ci (Tm false) (ci (gI (Q8 a1)) (ci (gI (Q8 a1)) (ci (gI (Q8 a1)) (ci (gI (Q8 a1)) (ci (gI (Q8 a1)) (ci (gI (Q8 a1)) (c1 (Tm (bif false then true else(decide (a1<1))))))))))))) ?_;refine gC h (fun h=>?_) (fun h=>?_)
 ·refine Ct hq [6] [30000,35000,37001] ?_;cases h;exact Ha [(30000,30000),(37001,37001),(35000,35000)]
 ·refine Ct hq [6] [30000,35000,37001] ?_;cases h;exact Ha [(30000,30000),(37001,37001),(35000,35000)]
def A2(a8:Int):(Int×Int×Int×List Aa×List Int)→Option (LR (Int×Int×Int×List Aa×List Int) (List Aa×List Int)):=
 fun((i1,i2,i3,l4,l5):(Int×Int×Int×List Aa×List Int))=>(bif (decide (i3<a8)) then(D6 (Gc i1 l5.length) (D6 (l4.length+([(⟨true,i1,(Tc i2)⟩:Aa)]:List Aa).length≤room) (some (.next ((Et (i1+1)),(R0 .u64 i2 (8:Int)),(Eb (i3+1)),(l4++([(⟨true,i1,(Tc i2)⟩:Aa)]:List Aa)),(l5.set i1.toNat (Tc i2))))))) else(some (.done (l4,l5))))
def Q9(i1:Int)(i2:Int):=([(⟨true,i1,(Tc i2)⟩:Aa)]:List Aa)
def Bo(a3:Int)(a8:Int)(aB:Int)(a0:List Int)(a2:List Aa):Option (List Aa×List Int):=
 ((Dc (A2 a8) (a3,aB,(0:Int),a2,a0)).bind (fun(l6,l7)=>(some (l6,l7))))
theorem F2(a3:Int)(a8:Int)(aB:Int)(a0:List Int)(a2:List Aa)(r:(List Aa×List Int))(h:Bo a3 a8 aB a0 a2=some r):Spec Try.prog 26 [(.ptr 30000 0),(.int .u64 a3),(.int .i64 a8),(.int .u64 aB)] [(30000,.row 63 [(.vsl 35000 a0.length),(AV.list 3 Ah default a2 (.own 37001))]),(37001,.tok 3 49 a2.length),(35000,.arr 1 5 a0.length (fun i=>Cn (a0.getD i 0)))] (.tuple []) [(30000,.row 63 [(.vsl 35000 r.2.length),(AV.list 3 Ah default r.1 (.own 37001))]),(37001,.tok 3 49 r.1.length),(35000,.arr 1 5 r.2.length (fun i=>Cn (r.2.getD i 0)))]:=by
 refine A8 mix Try.func26 (fun Γ hq=>?_);unfold Bo at h;refine Ct hq [0,1,3,9,10] [30000,35000,37001] ?_;obtain⟨x10,hx10,h⟩:=bind_some h;refine gL hq hx10 [0,1,3,9,10] [30000,35000,37001] (fun u (i1,i2,i3,l4,l5)=>(Tq u [(1,(.int .u64 i1)),(3,(.int .u64 i2)),(10,(Ia i3))] (Ts 30000 35000 l5.length l4 37001 l5 l4.length))) (fun u (l6,l7)=>aG Γ (.exit 0) ((Z6 l7.length l6 l7 l6.length):St)) ?_ ?_
 ·rintro⟨i1,i2,i3,l4,l5⟩ y h;unfold A2 at h;refine Ct hq [0,1,3,9,10,11] [30000,35000,37001] ?_;refine gC h (fun h=>?_) (fun h=>?_)
  ·refine Ct hq [0,1,3,8,9,10] [30000,35000,37001] ?_;obtain⟨hc8,h⟩:=Ap h;refine gR hq [0,1,3,8,9,10] [30000,35000,37001] [] [] (ci hc8 (c1 (Eq.refl l5.length))) ?_;refine U0 (Le.trans (Vt 35000 (show ∀ k_,k_<l5.length→AVleL ((fun i_=>AV.eraseAll (fun n_=>Ce n_ [30000,35000,37001]) ((Ji (fun i=>Cn (l5.getD i 0)) i1.toNat 0 [(.int .u8 (Tc i2))]) i_)) k_) ((fun i=>Cn ((l5.set i1.toNat (Tc i2)).getD i 0)) k_) from(Kj (List.length_set ..).symm (fun k_ hk_=>(congrArg (AV.eraseAll (fun n_=>Ce n_ [30000,35000,37001])) ((Mr (fun _ _=>rfl) (Og hc8) rfl) k_ hk_)).trans rfl)))) (Vu (fun(k_:Nat) u=>(Tq u [] [(O5 k_ l4),(35000,.arr 1 5 k_ (fun i=>Cn ((l5.set i1.toNat (Tc i2)).getD i 0)))])) (show l5.length=(l5.set i1.toNat (Tc i2)).length from(List.length_set ..).symm))) ?_;obtain⟨hc9,h⟩:=Ap h;refine gR hq [0,1,3,9,10] [30000,35000,37001] (V5 (Q9 i1 i2) l4) [] (ci (Gr 3 Ah (default:Aa) (Q9 i1 i2)) (ci (Eq.refl l4.length) (ci hc9 (ci (K2 3 37001 Ah (default:Aa) l4 (Q9 i1 i2)) (c1 (K8 l4 (Q9 i1 i2))))))) ?_;refine gR hq [0,1,3,9,10] [30000,35000,37001] [] [] (c1 (show(0≤(8:Int)) from(by decide))) ?_;refine Ct hq [0,1,3,9,10] [30000,35000,37001] ?_;refine Ct hq [0,1,3,9,10] [30000,35000,37001] ?_;cases h;exact gN T1
  ·cases h;exact gO (R7 (Jy [] [30000,35000,37001] hq))
 ·clear hx10;rcases x10 with⟨l6,l7⟩;refine Vs (fun st' hl11=>?_);cases h;exact gK (e:=.normal) (Pd [(30000,30000),(37001,37001),(35000,35000)] hl11)
def A5(a9:List Int)(x3:Int):(Int×Int×List Aa×List Int)→Option (LR (Int×Int×List Aa×List Int) ((List Aa×List Int) ⊕ (List Aa×List Int))):=
 fun((i4,i5,l6,l7):(Int×Int×List Aa×List Int))=>(bif (decide (i5<(a9.length:Int))) then(D6 (Gc i5 a9.length) ((A9 i4 x3 l7 l6).bind fun x13=>(D6 (l7.length=x13.2.2.length) (bif (!x13.1) then(some (.done (.inr (x13.2.1,x13.2.2)))) else((Bo i4 x3 (a9.getD i5.toNat 0) x13.2.2 x13.2.1).bind fun x15=>(D6 (x13.2.2.length=x15.2.length) (some (.next ((Et (i4+(Et x3))),(Eb (i5+1)),x15.1,x15.2))))))))) else(some (.done (.inl (l6,l7)))))
def Dn :(List Aa×List Int)→Option (LR (List Aa×List Int) (Int×List Aa×List Int)):=
 fun(s_:(List Aa×List Int))=>match s_ with|(l1,l2)=>(some (.done ((8:Int),l1,l2)))
def H9(Γ:Cu)(a3:Int)(a5:Int)(a9:List Int)(a0:List Int)(a2:List Aa)(r:(Int×List Aa×List Int)):Exit→St→Prop:=fK Try.prog Γ Try.f11.results.toList (Z4 a0.length a2 a2.length a0) (Ia r.1) (Z4 r.2.2.length r.2.1 r.2.1.length r.2.2)
def B4(a3:Int)(a5:Int)(a9:List Int)(a0:List Int)(a2:List Aa):Option (Int×List Aa×List Int):=
 ((D5 (S:=(List Aa×List Int)) (X:=(Int×List Aa×List Int)) ((B7 a5).bind fun x3=>(bif (bif (x3==0) then true else(decide (((16:Int):Int)<(a9.length:Int)))) then(some (.done ((1:Int),a2,a0))) else((Dc (A5 a9 x3) (a3,(0:Int),a2,a0)).bind (fun x17=>(match x17 with|(.inl (l8,l9))=>(some (.done ((0:Int),l8,l9)))|(.inr (l10,l11))=>(some (.next (l10,l11)))))))) Dn).bind (fun x20=>(some x20)))
theorem Hn(a3:Int)(a5:Int)(a9:List Int)(a0:List Int)(a2:List Aa)(r:(Int×List Aa×List Int))(h:B4 a3 a5 a9 a0 a2=some r):Spec Try.prog 11 [(.ptr 30000 0),(.int .u64 a3),(.int .i64 a5),(AV.list 1 C2 0 a9 .none)] [(30000,.row 63 [(.vsl 35000 a0.length),(AV.list 3 Ah default a2 (.own 37001))]),(37001,.tok 3 49 a2.length),(35000,.arr 1 5 a0.length (fun i=>Cn (a0.getD i 0)))] (.int .i64 r.1) [(30000,.row 63 [(.vsl 35000 r.2.2.length),(AV.list 3 Ah default r.2.1 (.own 37001))]),(37001,.tok 3 49 r.2.1.length),(35000,.arr 1 5 r.2.2.length (fun i=>Cn (r.2.2.getD i 0)))]:=by
 refine A8 mix Try.func11 (fun Γ hq=>?_);unfold B4 at h;refine Ct hq [0,1,2,3] [30000,35000,37001] ?_;obtain⟨x20,hx20,h⟩:=bind_some h;refine gS hx20 (fun(s_:(List Aa×List Int))=>match s_ with|(l1,l2)=>0) (fun(s_:(List Aa×List Int))=>match s_ with|(l1,l2)=>((Z6 l2.length l1 l2 l1.length):St)) (fun r_=>aR (H9 Γ a3 a5 a9 a0 a2 r_)) ?_ ?_ ?_
 ·clear h hx20;intro y h;obtain⟨x3,hx3,h⟩:=bind_some h;refine gR hq [0,1,3,9] [30000,35000,37001] [] [⟨[],[],(Ia x3),[],[]⟩] (c1 (Fd a5 x3 hx3)) ?_;refine gR hq [0,1,3,9,20] [30000,35000,37001] [] [] (ci (gI ((x3==0)==false)) (ci (gI ((x3==0)==false)) (c1 (Tm (x3==0))))) ?_;refine gC h (fun h=>?_) (fun h=>?_)
  ·refine Ct hq [8] [30000,35000,37001] ?_;cases h;exact Ul (Uj (Pd [(30000,30000),(37001,37001),(35000,35000)] (Le.refl _ _)))
  ·refine Ct hq [0,1,9,21,22,23] [30000,35000,37001] ?_;obtain⟨x17,hx17,h⟩:=bind_some h;refine gL hq hx17 [0,1,9,21,22,23] [30000,35000,37001] (fun u (i4,i5,l6,l7)=>(Tq u [(1,(.int .u64 i4)),(23,(Ia i5))] (Ts 30000 35000 l7.length l6 37001 l7 l6.length))) (fun u x_=>match x_ with|(.inl (l8,l9))=>aG Γ (.exit 0) ((Z6 l9.length l8 l9 l8.length):St)|(.inr (l10,l11))=>aG Γ (.goto 0) ((Z6 l11.length l10 l11 l10.length):St)) ?_ ?_
   ·rintro⟨i4,i5,l6,l7⟩ y h;unfold A5 at h;refine Ct hq [0,1,9,21,22,23,24] [30000,35000,37001] ?_;refine gC h (fun h=>?_) (fun h=>?_)
    ·obtain⟨hc12,h⟩:=Ap h;refine gR hq [0,1,9,11,21,22,23] [30000,35000,37001] [] [] (c1 hc12) ?_;obtain⟨x13,hx13,h⟩:=bind_some h;obtain⟨hc14,h⟩:=Ap h;refine gR hq [0,1,9,11,21,22,23,31] [30000,35000,37001] [] [⟨[(30000,30000),(37001,37001),(35000,35000)],[],(.bool x13.1),(Z4 x13.2.2.length x13.2.1 x13.2.1.length x13.2.2),[]⟩] (c1 (Bw i4 x3 l7 l6 x13 hx13)) ?_;refine gC h (fun h=>?_) (fun h=>?_)
     ·cases h;exact gO (R7 (Jy [] [30000,35000,37001] hq))
     ·obtain⟨x15,hx15,h⟩:=bind_some h;obtain⟨hc16,h⟩:=Ap h;refine gR hq [0,1,9,21,22,23] [30000,35000,37001] [] [⟨[(30000,30000),(37001,37001),(35000,35000)],[],(.tuple []),(Z4 x15.2.length x15.1 x15.1.length x15.2),[]⟩] (c1 (F2 i4 x3 (a9.getD i5.toNat 0) x13.2.2 x13.2.1 x15 hx15)) ?_;refine Ct hq [0,1,9,21,22,23] [30000,35000,37001] ?_;refine Ct hq [0,1,9,21,22,23] [30000,35000,37001] ?_;cases h;exact gN T1
    ·cases h;exact gO (R7 (Jy [] [30000,35000,37001] hq))
   ·clear hx17;rcases x17 with⟨l8,l9⟩|⟨l10,l11⟩
    ·refine gA ?_;refine Ct hq [8] [30000,35000,37001] ?_;cases h;exact Ul (Uj (Pd [(30000,30000),(37001,37001),(35000,35000)] (Le.refl _ _)))
    ·refine Vs (fun st' hl19=>?_);cases h;exact V8 (Le.trans hl19 T1)
 ·clear h hx20;rintro⟨l1,l2⟩ y h;unfold Dn at h;refine Ct hq [8] [30000,35000,37001] ?_;cases h;exact Ul (Uj (Pd [(30000,30000),(37001,37001),(35000,35000)] (Le.refl _ _)))
 ·clear hx20;refine V7 (fun st' hk=>?_);obtain rfl:=OI h;exact gK hk
def A6(a8:Int)(a0:List Int):(Int×Int×Int×List Aa)→Option (LR (Int×Int×Int×List Aa) (Int×List Aa)):=
 fun((i1,i2,i3,l4):(Int×Int×Int×List Aa))=>(bif (decide (i3<a8)) then(D6 (Gc i1 a0.length) (D6 (l4.length+([(⟨false,i1,(a0.getD i1.toNat 0)⟩:Aa)]:List Aa).length≤room) (D6 (0≤(Eb ((8:Int)*i3))) (some (.next ((Et (i1+1)),(Ew .or .u64 i2 (Pt .u64 (Et (a0.getD i1.toNat 0)) (Eb ((8:Int)*i3)))),(Eb (i3+1)),(l4++([(⟨false,i1,(a0.getD i1.toNat 0)⟩:Aa)]:List Aa)))))))) else(some (.done (i2,l4))))
def Vg(i1:Int)(a0:List Int):=([(⟨false,i1,(a0.getD i1.toNat 0)⟩:Aa)]:List Aa)
def Bs(a3:Int)(a8:Int)(a0:List Int)(a2:List Aa):Option (Int×List Aa×List Int):=
 ((Dc (A6 a8 a0) (a3,(0:Int),(0:Int),a2)).bind (fun(i5,l6)=>(some (i5,l6,a0))))
theorem Gj(a3:Int)(a8:Int)(a0:List Int)(a2:List Aa)(r:(Int×List Aa×List Int))(h:Bs a3 a8 a0 a2=some r):Spec Try.prog 28 [(.ptr 30000 0),(.int .u64 a3),(.int .i64 a8)] [(30000,.row 63 [(.vsl 35000 a0.length),(AV.list 3 Ah default a2 (.own 37001))]),(37001,.tok 3 49 a2.length),(35000,.arr 1 5 a0.length (fun i=>Cn (a0.getD i 0)))] (.int .u64 r.1) [(30000,.row 63 [(.vsl 35000 r.2.2.length),(AV.list 3 Ah default r.2.1 (.own 37001))]),(37001,.tok 3 49 r.2.1.length),(35000,.arr 1 5 r.2.2.length (fun i=>Cn (r.2.2.getD i 0)))]:=by
 refine A8 mix Try.func28 (fun Γ hq=>?_);unfold Bs at h;refine Ct hq [0,1,2] [30000,35000,37001] ?_;refine Ct hq [0,1,2,7] [30000,35000,37001] ?_;refine Ct hq [0,1,7,10,11] [30000,35000,37001] ?_;obtain⟨x10,hx10,h⟩:=bind_some h;refine gL hq hx10 [0,1,7,10,11] [30000,35000,37001] (fun u (i1,i2,i3,l4)=>(Tq u [(1,(.int .u64 i1)),(7,(.int .u64 i2)),(11,(Ia i3))] [(O5 a0.length l4),(37001,.tok 3 49 l4.length)])) (fun u (i5,l6)=>aG Γ (.exit 0) (We [7] [30000,35000,37001] u [(7,(.int .u64 i5))] [(O5 a0.length l6),(37001,.tok 3 49 l6.length)])) ?_ ?_
 ·rintro⟨i1,i2,i3,l4⟩ y h;unfold A6 at h;refine Ct hq [0,1,7,10,11,12] [30000,35000,37001] ?_;refine gC h (fun h=>?_) (fun h=>?_)
  ·refine Ct hq [0,1,7,8,10,11] [30000,35000,37001] ?_;obtain⟨hc7,h⟩:=Ap h;refine gR hq [0,1,7,8,9,10,11] [30000,35000,37001] [] [] (ci hc7 (c1 (Eq.refl a0.length))) ?_;obtain⟨hc8,h⟩:=Ap h;refine gR hq [0,1,7,8,9,10,11] [30000,35000,37001] (V5 (Vg i1 a0) l4) [] (ci (Gr 3 Ah (default:Aa) (Vg i1 a0)) (ci (Eq.refl l4.length) (ci hc8 (ci (K2 3 37001 Ah (default:Aa) l4 (Vg i1 a0)) (c1 (K8 l4 (Vg i1 a0))))))) ?_;obtain⟨hc9,h⟩:=Ap h;refine gR hq [0,1,7,10,11] [30000,35000,37001] [] [] (c1 hc9) ?_;refine Ct hq [0,1,7,10,11] [30000,35000,37001] ?_;refine Ct hq [0,1,7,10,11] [30000,35000,37001] ?_;cases h;exact gN T1
  ·cases h;exact gO (R7 (Jy [7] [30000,35000,37001] hq))
 ·clear hx10;rcases x10 with⟨i5,l6⟩;refine gA ?_;refine Ct hq [6] [30000,35000,37001] ?_;cases h;exact Ha [(30000,30000),(37001,37001),(35000,35000)]
def A7(a1:Int)(x3:Int):(Int×Int×List Int×List Aa×List Int)→Option (LR (Int×Int×List Int×List Aa×List Int) ((List Int×List Aa×List Int) ⊕ (List Aa×List Int))):=
 fun((i5,i6,l7,l8,l9):(Int×Int×List Int×List Aa×List Int))=>(bif (decide (i6<((List.replicate a1.toNat (0:Int)).length:Int))) then((A9 i5 x3 l9 l8).bind fun x15=>(D6 (l9.length=x15.2.2.length) (bif (!x15.1) then(some (.done (.inr (x15.2.1,x15.2.2)))) else((Bs i5 x3 x15.2.2 x15.2.1).bind fun x17=>(D6 (x15.2.2.length=x17.2.2.length) (D6 (Gc i6 l7.length) (some (.next ((Et (i5+(Et x3))),(Eb (i6+1)),(l7.set i6.toNat x17.1),x17.2.1,x17.2.2))))))))) else(some (.done (.inl (l7,l8,l9)))))
def Dz :(List Aa×List Int)→Option (LR (List Aa×List Int) (List Int×Int×List Aa×List Int)):=
 fun(s_:(List Aa×List Int))=>match s_ with|(l1,l2)=>(some (.done (([]:List Int),(8:Int),l1,l2)))
def Il(Γ:Cu)(a3:Int)(a5:Int)(a1:Int)(a0:List Int)(a2:List Aa)(r:(List Int×Int×List Aa×List Int)):Exit→St→Prop:=fK Try.prog Γ Try.f13.results.toList (Z4 a0.length a2 a2.length a0) (.tuple [(AV.list 1 C2 0 r.1 (.own 20000)),(Ia r.2.1)]) [(O5 r.2.2.2.length r.2.2.1),(37001,.tok 3 49 r.2.2.1.length),(Z1 35000 r.2.2.2),(20000,.tok 1 33 r.1.length)]
def Uc:AV:=(AV.list 1 C2 0 ([]:List Int) .exact)
def Vk(l2:List Int)(l1:List Aa):List (Nat×Own):=(Ts 30000 35000 l2.length l1 37001 l2 l1.length)
def V1(l10:List Int)(l12:List Int)(l11:List Aa):List (Nat×Own):=[(26,.arr 1 33 l10.length (fun i=>C2 (l10.getD i 0))),(O5 l12.length l11),(Z1 35000 l12),(37001,.tok 3 49 l11.length)]
def V0(a0:List Int)(a2:List Aa):=(⟨[(8,Uc),(9,(.int .i64 (1:Int)))],(Ts 30000 35000 a0.length a2 37001 a0 a2.length),[]⟩:St)
def Vz(l2:List Int)(l1:List Aa):=(⟨[(8,(AV.list 1 C2 0 ([]:List Int) (.own 6008))),(9,(.int .i64 (8:Int)))],[(6008,.tok 1 33 (([]:List Int).length)),(O5 l2.length l1),(Z1 35000 l2),(37001,.tok 3 49 l1.length)],[]⟩:St)
def Vy(a0:List Int)(a2:List Aa):=(⟨[(8,(AV.list 1 C2 0 ([]:List Int) (.own 6008))),(9,(.int .i64 (1:Int)))],[(6008,.tok 1 33 (([]:List Int).length)),(O5 a0.length a2),(Z1 35000 a0),(37001,.tok 3 49 a2.length)],[]⟩:St)
def Bv(a3:Int)(a5:Int)(a1:Int)(a0:List Int)(a2:List Aa):Option (List Int×Int×List Aa×List Int):=
 ((D5 (S:=(List Aa×List Int)) (X:=(List Int×Int×List Aa×List Int)) ((B7 a5).bind fun x3=>(bif (bif (bif (x3==0) then true else(decide (a1<0))) then true else(decide (((16:Int):Int)<a1))) then(some (.done (([]:List Int),(1:Int),a2,a0))) else(D6 (0≤a1∧a1≤a1∧a1≤(room:Int)) ((Dc (A7 a1 x3) (a3,(0:Int),(List.replicate a1.toNat (0:Int)),a2,a0)).bind (fun x20=>(match x20 with|(.inl (l10,l11,l12))=>(some (.done (l10,(0:Int),l11,l12)))|(.inr (l13,l14))=>(some (.next (l13,l14))))))))) Dz).bind (fun x23=>(some x23)))
theorem Ey(a3:Int)(a5:Int)(a1:Int)(a0:List Int)(a2:List Aa)(r:(List Int×Int×List Aa×List Int))(h:Bv a3 a5 a1 a0 a2=some r):Spec Try.prog 13 [(.ptr 30000 0),(.int .u64 a3),(.int .i64 a5),(.int .i64 a1)] [(30000,.row 63 [(.vsl 35000 a0.length),(AV.list 3 Ah default a2 (.own 37001))]),(37001,.tok 3 49 a2.length),(35000,.arr 1 5 a0.length (fun i=>Cn (a0.getD i 0)))] (.tuple [(AV.list 1 C2 0 r.1 (.own 20000)),(.int .i64 r.2.1)]) [(30000,.row 63 [(.vsl 35000 r.2.2.2.length),(AV.list 3 Ah default r.2.2.1 (.own 37001))]),(37001,.tok 3 49 r.2.2.1.length),(35000,.arr 1 5 r.2.2.2.length (fun i=>Cn (r.2.2.2.getD i 0))),(20000,.tok 1 33 r.1.length)]:=by
 refine A8 mix Try.func13 (fun Γ hq=>?_);have hΓ:=hq.own;unfold Bv at h;refine gR hq [0,1,2,3] [30000,35000,37001] [(8,Uc)] [] (c1 (Co 1 C2 (0:Int))) ?_;obtain⟨x23,hx23,h⟩:=bind_some h;refine gS hx23 (fun(s_:(List Aa×List Int))=>match s_ with|(l1,l2)=>0) (fun(s_:(List Aa×List Int))=>match s_ with|(l1,l2)=>(⟨[],(Vk l2 l1),[]⟩:St)) (fun r_=>aR (Il Γ a3 a5 a1 a0 a2 r_)) ?_ ?_ ?_
 ·clear h hx23;intro y h;obtain⟨x3,hx3,h⟩:=bind_some h;refine gR hq [0,1,3,10] [30000,35000,37001] [] [⟨[],[],(Ia x3),[],[]⟩] (c1 (Fd a5 x3 hx3)) ?_;refine gR hq [0,1,3,10,24] [30000,35000,37001] [] [] (ci (gI ((x3==0)==false)) (ci (Tm (x3==0)) (ci (gI ((bif (x3==0) then true else(decide (a1<0)))==false)) (c1 (Tm (bif (x3==0) then true else(decide (a1<0)))))))) ?_;refine gC h (fun h=>?_) (fun h=>?_)
  ·refine gR hq [8,9] [30000,35000,37001] [(8,Uc)] [] (c1 (Co 1 C2 (0:Int))) ?_;refine Sm (V0 a0 a2) ?_;cases h;exact Ul (Uj (Pd [(30000,30000),(37001,37001),(35000,35000),(6008,20000)] (show Le Γ _ (Vy a0 a2) from Le.trans (Jy (st':=(V0 a0 a2)) [8,9] [30000,35000,37001] hq) (Le.trans (Nn (t:=8) (nm:=6008) (sz':=1) (fun i=>C2 (([]:List Int).getD i 0)) 33 rfl rfl (.inl ⟨rfl,rfl⟩) (fun h_=>absurd h_ (by decide))) (Jy (st':=(Vy a0 a2)) [8,9] [6008,30000,35000,37001] hq)))))
  ·obtain⟨hc4,h⟩:=Ap h;refine gR hq [0,1,10,11] [26,30000,35000,37001] [] [] (c1 hc4) ?_;refine U0 (Le.trans (Vt 26 (show ∀ k_,k_<(a1.toNat)→AVleL ((fun i_=>AV.eraseAll (fun n_=>Ce n_ [26,30000,35000,37001]) ((fun _=>[(.int .u64 (0:Int))]) i_)) k_) ((fun i=>C2 ((List.replicate a1.toNat (0:Int)).getD i 0)) k_) from(fun k hk=>Sx (e:=C2) (d:=(0:Int)) (.cons (AVle.refl _) .nil) _ k (S7 hk)))) (Vu (fun(k_:Nat) u=>(Tq u [(11,(.vsl 26 k_))] [(26,.arr 1 33 k_ (fun i=>C2 ((List.replicate a1.toNat (0:Int)).getD i 0)))])) (show a1.toNat=(List.replicate a1.toNat (0:Int)).length from(List.length_replicate ..).symm))) ?_;refine Ct hq [0,1,10,11,28,29] [26,30000,35000,37001] ?_;obtain⟨x20,hx20,h⟩:=bind_some h;refine gL hq hx20 [0,1,10,11,28,29] [26,30000,35000,37001] (fun u (i5,i6,l7,l8,l9)=>(Tq u [(1,(.int .u64 i5)),(11,(.vsl 26 l7.length)),(29,(Ia i6))] [(26,.arr 1 33 l7.length (fun i=>C2 (l7.getD i 0))),(O5 l9.length l8),(Z1 35000 l9),(37001,.tok 3 49 l8.length)])) (fun u x_=>match x_ with|(.inl (l10,l11,l12))=>aG Γ (.exit 0) (⟨[(11,(.vsl 26 l10.length))],(V1 l10 l12 l11),[]⟩:St)|(.inr (l13,l14))=>aG Γ (.goto 0) ((Z6 l14.length l13 l14 l13.length):St)) ?_ ?_
   ·rintro⟨i5,i6,l7,l8,l9⟩ y h;unfold A7 at h;refine Ct hq [0,1,10,11,28,29,30] [26,30000,35000,37001] ?_;refine gC h (fun h=>?_) (fun h=>?_)
    ·refine Ct hq [0,1,10,11,12,28,29] [26,30000,35000,37001] ?_;obtain⟨x15,hx15,h⟩:=bind_some h;obtain⟨hc16,h⟩:=Ap h;refine gR hq [0,1,10,11,12,28,29,36] [26,30000,35000,37001] [] [⟨[(30000,30000),(37001,37001),(35000,35000)],[],(.bool x15.1),(Z4 x15.2.2.length x15.2.1 x15.2.1.length x15.2.2),[]⟩] (c1 (Bw i5 x3 l9 l8 x15 hx15)) ?_;refine gC h (fun h=>?_) (fun h=>?_)
     ·cases h;exact gO (R7 (Jy [] [30000,35000,37001] hq))
     ·obtain⟨x17,hx17,h⟩:=bind_some h;obtain⟨hc18,h⟩:=Ap h;obtain⟨hc19,h⟩:=Ap h;refine gR hq [0,1,10,11,28,29] [26,30000,35000,37001] [] [⟨[(30000,30000),(37001,37001),(35000,35000)],[],(.int .u64 x17.1),(Z4 x17.2.2.length x17.2.1 x17.2.1.length x17.2.2),[]⟩] (ci (Gj i5 x3 x15.2.2 x15.2.1 x17 hx17) (ci hc19 (c1 (Eq.refl l7.length)))) ?_;refine U0 (Le.trans (Vt 26 (show ∀ k_,k_<l7.length→AVleL ((fun i_=>AV.eraseAll (fun n_=>Ce n_ [26,30000,35000,37001]) ((Ji (fun i=>C2 (l7.getD i 0)) i6.toNat 0 [(.int .u64 x17.1)]) i_)) k_) ((fun i=>C2 ((l7.set i6.toNat x17.1).getD i 0)) k_) from(Kj (List.length_set ..).symm (fun k_ hk_=>(congrArg (AV.eraseAll (fun n_=>Ce n_ [26,30000,35000,37001])) ((Mr (fun _ _=>rfl) (Og hc19) rfl) k_ hk_)).trans rfl)))) (Vu (fun(k_:Nat) u=>(Tq u [(11,(.vsl 26 k_))] [(26,.arr 1 33 k_ (fun i=>C2 ((l7.set i6.toNat x17.1).getD i 0)))])) (show l7.length=(l7.set i6.toNat x17.1).length from(List.length_set ..).symm))) ?_;refine Ct hq [0,1,10,11,28,29] [26,30000,35000,37001] ?_;refine Ct hq [0,1,10,11,28,29] [26,30000,35000,37001] ?_;cases h;exact gN T1
    ·cases h;exact gO (R7 (Jy [11] [26,30000,35000,37001] hq))
   ·clear hx20;rcases x20 with⟨l10,l11,l12⟩|⟨l13,l14⟩
    ·refine gA ?_;refine Ct hq [8,9] [26,30000,35000,37001] ?_;refine Sm (⟨[(8,(.vsl 26 l10.length)),(9,Se)],(V1 l10 l12 l11),[]⟩:St) ?_;cases h;exact Ul (Uj (Pd [(30000,30000),(37001,37001),(35000,35000),(26,20000)] (Le.trans (Hg (nm:=26) (sz:=1) (n:=l10.length) (e:=33) (f:=(fun i=>C2 (l10.getD i 0))) (g:=(fun i=>C2 (l10.getD i 0))) rfl ⟨rfl,trivial⟩ (fun _ _=>rfl) (by rw[hΓ];rfl)) (Re (st':=⟨[(8,(AV.list 1 C2 0 l10 (.own 26))),(9,Se)],[(26,.tok 1 33 l10.length),(O5 l12.length l11),(Z1 35000 l12),(37001,.tok 3 49 l11.length)],[]⟩) (by kernel_rfl)))))
    ·refine Vs (fun st' hl22=>?_);cases h;exact V8 (Le.trans hl22 T1)
 ·clear h hx23;rintro⟨l1,l2⟩ y h;unfold Dz at h;refine gR hq [8,9] [30000,35000,37001] [(8,Uc)] [] (c1 (Co 1 C2 (0:Int))) ?_;refine Sm (⟨[(8,Uc),(9,(.int .i64 (8:Int)))],(Vk l2 l1),[]⟩:St) ?_;cases h;exact Ul (Uj (Pd [(30000,30000),(37001,37001),(35000,35000),(6008,20000)] (show Le Γ _ (Vz l2 l1) from Le.trans (Jy (st':=⟨[(8,Uc),(9,(.int .i64 (8:Int)))],(Vk l2 l1),[]⟩) [8,9] [30000,35000,37001] hq) (Le.trans (Nn (t:=8) (nm:=6008) (sz':=1) (fun i=>C2 (([]:List Int).getD i 0)) 33 rfl rfl (.inl ⟨rfl,rfl⟩) (fun h_=>absurd h_ (by decide))) (Jy (st':=(Vz l2 l1)) [8,9] [6008,30000,35000,37001] hq)))))
 ·clear hx23;refine V7 (fun st' hk=>?_);obtain rfl:=OI h;exact gK hk
def Uq(x1:List Int):=(fun i=>Cn (x1.getD i 0))
def B2(a0:List Int)(a2:List Aa):Option (List Int×List Aa×List Int):=
 ((Ai a0).bind fun x1=>(some (x1,a2,a0)))
theorem Hm(a0:List Int)(a2:List Aa)(r:(List Int×List Aa×List Int))(h:B2 a0 a2=some r):Spec Try.prog 19 [(.ptr 30000 0)] [(30000,.row 63 [(.vsl 35000 a0.length),(AV.list 3 Ah default a2 (.own 37001))]),(37001,.tok 3 49 a2.length),(35000,.arr 1 5 a0.length (fun i=>Cn (a0.getD i 0)))] (AV.list 1 Cn 0 r.1 (.own 20000)) [(30000,.row 63 [(.vsl 35000 r.2.2.length),(AV.list 3 Ah default r.2.1 (.own 37001))]),(37001,.tok 3 49 r.2.1.length),(35000,.arr 1 5 r.2.2.length (fun i=>Cn (r.2.2.getD i 0))),(20000,.tok 1 5 r.1.length)]:=by
 refine A8 mix Try.func19 (fun Γ hq=>?_);have hΓ:=hq.own;unfold B2 at h;refine gR hq [0] [30000,35000,37001] [(2,(AV.list 1 Cn 0 ([]:List Int) .exact))] [] (c1 (Co 1 Cn (0:Int))) ?_;refine Ct hq [0,4] [30000,35000,37001] ?_;refine Uk false ?_;obtain⟨x1,hx1,h⟩:=bind_some h;refine gR hq [2] [9,30000,35000,37001] [] [⟨[],[(20000,9)],(.vsl 20000 x1.length),[(20000,.arr 1 5 x1.length (Uq x1))],[35000]⟩] (ci (Bf a0 x1 hx1) (ci (show(Gw [(20000,.arr 1 5 x1.length (Uq x1))]) from⟨(fun _ _=>rfl),trivial⟩) (c1 (Eq.refl a0.length)))) ?_;refine Sm (⟨[(2,(.vsl 9 x1.length))],[(9,.arr 1 5 x1.length (Uq x1)),(O5 a0.length a2),(Z1 35000 a0),(37001,.tok 3 49 a2.length)],[]⟩:St) ?_;cases h;exact gK (e:=.ret) (Pd [(30000,30000),(37001,37001),(35000,35000),(9,20000)] (Le.trans (Hg (nm:=9) (sz:=1) (n:=x1.length) (e:=5) (f:=(Uq x1)) (g:=(Uq x1)) rfl ⟨rfl,trivial⟩ (fun _ _=>rfl) (by rw[hΓ];rfl)) (Re (st':=⟨[(2,(AV.list 1 Cn 0 x1 (.own 9)))],[(9,.tok 1 5 x1.length),(O5 a0.length a2),(Z1 35000 a0),(37001,.tok 3 49 a2.length)],[]⟩) (by kernel_rfl))))
def Ud:AV:=Z8
def V2:=(⟨[(2,(AV.list 3 Ah default ([]:List Aa) (.own 6002)))],[(6002,.tok 3 49 (([]:List Aa).length))],[]⟩:St)
def Ak(a7:List Aa):Option (List Aa):=
 (D6 (([]:List Aa).length+a7.length≤room) (some (([]:List Aa)++a7)))
theorem Bh(a7:List Aa)(r:List Aa)(h:Ak a7=some r):Spec Try.prog 29 [(AV.list 3 Ah default a7 .none)] [] (AV.list 3 Ah default r (.own 20000)) [(20000,.tok 3 49 r.length)]:=by
 refine A8 mix Try.func29 (fun Γ hq=>?_);unfold Ak at h;refine gR hq [0] [] [(2,Ud)] [] (c1 (Co 3 Ah (default:Aa))) ?_;refine Ct hq [0,4] [] ?_;refine U1 true a7.length (fun hb=>?_) (fun hb=>?_)
 ·replace h:=Rm (some ([]:List Aa)) (fun(l2:List Aa)=>(D6 (([]:List Aa).length+l2.length≤room) (some (([]:List Aa)++l2)))) h (hb rfl) rfl (fun h0=>by first|exact h0|simpa [D6,room] using h0);clear hb;refine gR hq [2] [] [(2,Ud)] [] (c1 (Co 3 Ah (default:Aa))) ?_;refine Sm (⟨[(2,Ud)],[],[]⟩:St) ?_;cases h;exact gK (e:=.ret) (Pd [(6002,20000)] (show Le Γ _ V2 from Le.trans (Jy (st':=⟨[(2,Ud)],[],[]⟩) [2] [] hq) (Le.trans (Nn (t:=2) (nm:=6002) (sz':=3) (fun i=>Ah (([]:List Aa).getD i default)) 49 rfl rfl (.inl ⟨rfl,rfl⟩) (fun h_=>absurd h_ (by decide))) (Jy (st':=V2) [2] [6002] hq))))
 ·clear hb;obtain⟨hc1,h⟩:=Ap h;refine gR hq [2] [7] [(5,Ud),(7,(AV.list 3 Ah default (([]:List Aa)++a7) (.own 7)))] [] (ci (show(AVle (.slice 3 0 (fun i=>([]:List (List AV)).getD i []) .exact) Ud) from Nb rfl (fun i hi=>absurd hi (Nat.not_lt_zero i))) (ci hc1 (ci (show(49=G9→([]:List Aa).length=0∨0<a7.length) from(fun h_=>absurd h_ (by decide))) (ci (K2 3 7 Ah (default:Aa) ([]:List Aa) a7) (c1 (K8 ([]:List Aa) a7)))))) ?_;cases h;exact Ha [(7,20000)]
def B3(a0:List Int)(a2:List Aa):Option (List Aa×List Aa×List Int):=
 ((Ak a2).bind fun x1=>(some (x1,a2,a0)))
theorem Cx(a0:List Int)(a2:List Aa)(r:(List Aa×List Aa×List Int))(h:B3 a0 a2=some r):Spec Try.prog 21 [(.ptr 30000 0)] [(30000,.row 63 [(.vsl 35000 a0.length),(AV.list 3 Ah default a2 (.own 37001))]),(37001,.tok 3 49 a2.length),(35000,.arr 1 5 a0.length (fun i=>Cn (a0.getD i 0)))] (AV.list 3 Ah default r.1 (.own 20000)) [(30000,.row 63 [(.vsl 35000 r.2.2.length),(AV.list 3 Ah default r.2.1 (.own 37001))]),(37001,.tok 3 49 r.2.1.length),(35000,.arr 1 5 r.2.2.length (fun i=>Cn (r.2.2.getD i 0))),(20000,.tok 3 49 r.1.length)]:=by
 refine A8 mix Try.func21 (fun Γ hq=>?_);unfold B3 at h;refine gR hq [0] [30000,35000,37001] [(2,Z8)] [] (c1 (Co 3 Ah (default:Aa))) ?_;refine Ct hq [0,4] [30000,35000,37001] ?_;refine Uk false ?_;obtain⟨x1,hx1,h⟩:=bind_some h;refine gR hq [2] [9,30000,35000,37001] [] [⟨[],[(20000,9)],(Uu x1),[(20000,.tok 3 49 x1.length)],[]⟩] (c1 (Bh a2 x1 hx1)) ?_;cases h;exact Ha [(30000,30000),(37001,37001),(35000,35000),(9,20000)]
def Ug(x5:(List Int×Int×List Aa×List Int)):=(x5.2.1==0)
def Th(x3:(Int×List Aa×List Int)):=((x3.1==0)==true)
def Wb(x5:(List Int×Int×List Aa×List Int)):=(((x5.1.length:Int):Int)==1)
def P6(x3:(Int×List Aa×List Int))(x9:(List Int×List Aa×List Int)):=(bif (x3.1==0) then(((x9.1.length:Int):Int)==4) else false)
def Ui(x9:(List Int×List Aa×List Int)):=(((x9.1.getD (2:Int).toNat (0:Int)):Int)==2)
def N5(x3:(Int×List Aa×List Int))(x9:(List Int×List Aa×List Int)):=(bif (bif (P6 x3 x9) then(Ui x9) else false) then(((x9.1.getD (3:Int).toNat (0:Int)):Int)==1) else false)
def Ls(x3:(Int×List Aa×List Int))(x9:(List Int×List Aa×List Int))(x5:(List Int×Int×List Aa×List Int)):=(bif (bif (N5 x3 x9) then(Ug x5) else false) then(Wb x5) else false)
def Wc(x5:(List Int×Int×List Aa×List Int)):=(((x5.1.getD (0:Int).toNat (0:Int)):Int)==16910601)
def P0(x3:(Int×List Aa×List Int))(x9:(List Int×List Aa×List Int))(x5:(List Int×Int×List Aa×List Int)):=(bif (Ls x3 x9 x5) then(Wc x5) else false)
def Tg(x3:(Int×List Aa×List Int))(x9:(List Int×List Aa×List Int))(x5:(List Int×Int×List Aa×List Int)):=((bif (N5 x3 x9) then(Ug x5) else false)==true)
def Uh(x15:(List Aa×List Aa×List Int)):AV:=(Uu x15.1)
def R6:=([(9:Int),(9:Int),(9:Int),(9:Int)]:List Int)
def Pz(x3:(Int×List Aa×List Int))(x9:(List Int×List Aa×List Int)):=((P6 x3 x9)==true)
def Py(x3:(Int×List Aa×List Int))(x9:(List Int×List Aa×List Int)):=((bif (P6 x3 x9) then(Ui x9) else false)==true)
def Vl(x9:(List Int×List Aa×List Int)):List (Nat×Own):=(Z4 x9.2.2.length x9.2.1 x9.2.1.length x9.2.2)
def Ur(x18:(Bool×List Aa×List Int)):List (Nat×Own):=(Z4 x18.2.2.length x18.2.1 x18.2.1.length x18.2.2)
def V3(x15:(List Aa×List Aa×List Int)):List (Nat×Own):=(Z4 x15.2.2.length x15.2.1 x15.2.1.length x15.2.2)
def V4(x21:(Bool×List Aa×List Int)):List (Nat×Own):=(Z4 x21.2.2.length x21.2.1 x21.2.1.length x21.2.2)
def Uf(x1:((Bool×J7)×Int)):List (Nat×Own):=(Ts 20000 21000 x1.1.2.bytes.length x1.1.2.trace 21001 x1.1.2.bytes x1.1.2.trace.length)
def Ue(x15:(List Aa×List Aa×List Int)):List (Nat×Own):=[(O5 x15.2.2.length x15.2.1),(37001,.tok 3 49 x15.2.1.length),(Z1 35000 x15.2.2),(20000,.tok 3 49 x15.1.length)]
def m_locksteplaw12_awake :Option Bool:=
 ((Dj ([(9:Int),(9:Int),(9:Int),(9:Int)]:List Int)).bind fun x1=>(bif x1.1.1 then(bif (x1.2 !=0) then(some false) else((B4 (2:Int) (16:Int) ([(258:Int)]:List Int) x1.1.2.bytes x1.1.2.trace).bind fun x3=>(D6 (x1.1.2.bytes.length=x3.2.2.length) ((Bv (0:Int) (32:Int) (1:Int) x3.2.2 x3.2.1).bind fun x5=>(D6 (x3.2.2.length=x5.2.2.2.length) ((Bv (1:Int) (32:Int) (1:Int) x5.2.2.2 x5.2.2.1).bind fun x7=>(D6 (x5.2.2.2.length=x7.2.2.2.length) ((B2 x7.2.2.2 x7.2.2.1).bind fun x9=>(D6 (x7.2.2.2.length=x9.2.2.length) (D6 (((bif (x3.1==0) then(((x9.1.length:Int):Int)==4) else false)==true)=true→(Gc (2:Int) x9.1.length)) (D6 (((bif (bif (x3.1==0) then(((x9.1.length:Int):Int)==4) else false) then(((x9.1.getD (2:Int).toNat (0:Int)):Int)==2) else false)==true)=true→(Gc (3:Int) x9.1.length)) (D6 (((bif (bif (bif (bif (bif (x3.1==0) then(((x9.1.length:Int):Int)==4) else false) then(((x9.1.getD (2:Int).toNat (0:Int)):Int)==2) else false) then(((x9.1.getD (3:Int).toNat (0:Int)):Int)==1) else false) then(x5.2.1==0) else false) then(((x5.1.length:Int):Int)==1) else false)==true)=true→(Gc (0:Int) x5.1.length)) (bif (bif (bif (bif (bif (bif (bif (bif (x3.1==0) then(((x9.1.length:Int):Int)==4) else false) then(((x9.1.getD (2:Int).toNat (0:Int)):Int)==2) else false) then(((x9.1.getD (3:Int).toNat (0:Int)):Int)==1) else false) then(x5.2.1==0) else false) then(((x5.1.length:Int):Int)==1) else false) then(((x5.1.getD (0:Int).toNat (0:Int)):Int)==16910601) else false) then(x7.2.1==8) else false) then((B3 x9.2.2 x9.2.1).bind fun x15=>(D6 (x9.2.2.length=x15.2.2.length) (bif (((x15.1.length:Int):Int)==6) then((A9 (3:Int) (1:Int) x15.2.2 x15.2.1).bind fun x18=>(D6 (x15.2.2.length=x18.2.2.length) (bif x18.1 then((A9 (3:Int) (2:Int) x18.2.2 x18.2.1).bind fun x21=>(D6 (x18.2.2.length=x21.2.2.length) (some (!x21.1)))) else(some false)))) else(some false)))) else(some false)))))))))))))) else(some false)))
theorem En  (r:Bool) (h:m_locksteplaw12_awake=some r):Spec Try.prog 9 [] [] (.bool r) []:=by
 refine A8 mix Try.func9 (fun Γ hq=>?_);unfold m_locksteplaw12_awake at h;refine Ct hq [] [] ?_;obtain⟨x1,hx1,h⟩:=bind_some h;refine gB h (fun hs2 h=>?_) (fun hs2 h=>?_)
 ·refine gR hq [1,2] [11,60011000,60011001] [(10,(AV.list 1 Cn 0 R6 .exact))] [⟨[],[(20000,11),(21000,60011000),(21001,60011001)],(.tuple [(bif true then((.ptr 20000 0):AV) else .nilp),(Ia x1.2)]),(bif true then(Uf x1) else[]),[]⟩] (ci (Gr 1 Cn (0:Int) R6) (c1 (show(Spec Try.prog 10 [(AV.list 1 Cn 0 R6 .none)] [] (.tuple [(bif true then((.ptr 20000 0):AV) else .nilp),(Ia x1.2)]) (bif true then(Uf x1) else[])) from(Vh (fun b_:Bool=>Spec Try.prog 10 [(AV.list 1 Cn 0 R6 .none)] [] (.tuple [(bif b_ then((.ptr 20000 0):AV) else .nilp),(Ia x1.2)]) (bif b_ then(Uf x1) else[])) hs2 (Eo R6 x1 hx1))))) ?_;refine gR hq [1,19] [11,60011000,60011001] [] [] (ci (show((false==false)=true→(false==false)=true) from(fun _=>rfl)) (c1 (show(false=false→(false==false)=true) from(fun _=>rfl)))) ?_;refine gC h (fun h=>?_) (fun h=>?_)
  ·refine Ct hq [0] [] ?_;obtain rfl:=OI h;exact Ha []
  ·obtain⟨x3,hx3,h⟩:=bind_some h;obtain⟨hc4,h⟩:=Ap h;refine gR hq [1,3] [11,60011000,60011001] [(21,(AV.list 1 C2 0 ([(258:Int)]:List Int) .exact))] [⟨[(11,30000),(60011001,37001),(60011000,35000)],[],(Ia x3.1),(Z4 x3.2.2.length x3.2.1 x3.2.1.length x3.2.2),[]⟩] (ci (Gr 1 C2 (0:Int) ([(258:Int)]:List Int)) (c1 (Hn (2:Int) (16:Int) ([(258:Int)]:List Int) x1.1.2.bytes x1.1.2.trace x3 hx3))) ?_;obtain⟨x5,hx5,h⟩:=bind_some h;obtain⟨hc6,h⟩:=Ap h;refine gR hq [1,3,4,5] [11,25,60011000,60011001] [] [(Z9 25 x5.1 x5.2.1 x5.2.2.2.length x5.2.2.1 x5.2.2.1.length x5.2.2.2 x5.1.length)] (c1 (Ey (0:Int) (32:Int) (1:Int) x3.2.2 x3.2.1 x5 hx5)) ?_;obtain⟨x7,hx7,h⟩:=bind_some h;obtain⟨hc8,h⟩:=Ap h;refine gR hq [1,3,4,5,7] [11,25,60011000,60011001] [] [(Z9 30 x7.1 x7.2.1 x7.2.2.2.length x7.2.2.1 x7.2.2.1.length x7.2.2.2 x7.1.length)] (c1 (Ey (1:Int) (32:Int) (1:Int) x5.2.2.2 x5.2.2.1 x7 hx7)) ?_;obtain⟨x9,hx9,h⟩:=bind_some h;obtain⟨hc10,h⟩:=Ap h;refine gR hq [1,3,4,5,7,8] [11,25,34,60011000,60011001] [] [⟨[(11,30000),(60011001,37001),(60011000,35000)],[(20000,34)],(Uv x9.1),[(O5 x9.2.2.length x9.2.1),(37001,.tok 3 49 x9.2.1.length),(Z1 35000 x9.2.2),(20000,.tok 1 5 x9.1.length)],[]⟩] (c1 (Hm x7.2.2.2 x7.2.2.1 x9 hx9)) ?_;obtain⟨hc11,h⟩:=Ap h;obtain⟨hc12,h⟩:=Ap h;obtain⟨hc13,h⟩:=Ap h;refine gB h (fun hs14 h=>?_) (fun hs14 h=>?_)
   ·obtain⟨x15,hx15,h⟩:=bind_some h;obtain⟨hc16,h⟩:=Ap h;refine gB h (fun hs17 h=>?_) (fun hs17 h=>?_)
    ·obtain⟨x18,hx18,h⟩:=bind_some h;obtain⟨hc19,h⟩:=Ap h;refine gB h (fun hs20 h=>?_) (fun hs20 h=>?_)
     ·obtain⟨x21,hx21,h⟩:=bind_some h;obtain⟨hc22,h⟩:=Ap h;refine gR hq [0] [] [(Mz 73),(Mz 79),(Mz 83)] [(Vm (Uh x15) (Ue x15)),(Vn x18.1 (Ur x18)),(Vn x21.1 (V4 x21))] (ci (gI (Th x3)) (ci (gI (Th x3)) (ci (Gh (x3.1==0)) (ci (gI (Pz x3 x9)) (ci hc11 (ci (gI (Pz x3 x9)) (ci (gI (Pz x3 x9)) (ci (Gh (P6 x3 x9)) (ci (gI (Py x3 x9)) (ci hc12 (ci (gI (Py x3 x9)) (ci (gI (Py x3 x9)) (ci (Gh (bif (P6 x3 x9) then(Ui x9) else false)) (ci (gI ((N5 x3 x9)==true)) (ci (Gh (N5 x3 x9)) (ci (gI (Tg x3 x9 x5)) (ci (gI (Tg x3 x9 x5)) (ci (Gh (bif (N5 x3 x9) then(Ug x5) else false)) (ci (gI ((Ls x3 x9 x5)==true)) (ci hc13 (ci (gI ((Ls x3 x9 x5)==true)) (ci (gI ((Ls x3 x9 x5)==true)) (ci (Gh (Ls x3 x9 x5)) (ci (gI ((P0 x3 x9 x5)==true)) (ci (Gh (P0 x3 x9 x5)) (ci (show(AVle (.bool (bif (P0 x3 x9 x5) then(x7.2.1==8) else false)) (.bool true)) from(Bk hs14)) (ci (show((true==true)=true→(true==true)=true) from(fun _=>rfl)) (ci (show((true==true)=true→(Spec Try.prog 21 [(.ptr 30000 0)] (Vl x9) (Uh x15) (Ue x15))) from(fun _=>(Cx x9.2.2 x9.2.1 x15 hx15))) (ci (show((true==true)=true→(true==true)=true) from(fun _=>rfl)) (ci (show((true==true)=true→(true==true)=true) from(fun _=>rfl)) (ci (show(true=true→(true==true)=true) from(fun _=>rfl)) (ci (show(AVle (.bool (((x15.1.length:Int):Int)==6)) (.bool true)) from(Bk hs17)) (ci (show((true==true)=true→(true==true)=true) from(fun _=>rfl)) (ci (show((true==true)=true→(Spec Try.prog 16 [(.ptr 30000 0),Ti,(.int .i64 (1:Int))] (V3 x15) (.bool x18.1) (Ur x18))) from(fun _=>(Bw (3:Int) (1:Int) x15.2.2 x15.2.1 x18 hx18))) (ci (show(true=true→(true==true)=true) from(fun _=>rfl)) (ci (show(AVle (.bool x18.1) (.bool true)) from(Bk hs20)) (ci (show((true==true)=true→(true==true)=true) from(fun _=>rfl)) (ci (show((true==true)=true→(Spec Try.prog 16 [(.ptr 30000 0),Ti,(.int .i64 (2:Int))] (Ur x18) (.bool x21.1) (V4 x21))) from(fun _=>(Bw (3:Int) (2:Int) x18.2.2 x18.2.1 x21 hx21))) (ci (show((true==true)=true→(true==true)=true) from(fun _=>rfl)) (c1 (show(true=true→(true==true)=true) from(fun _=>rfl)))))))))))))))))))))))))))))))))))))))))) ?_;cases h;exact Ha []
     ·refine gR hq [0] [] [(Mz 73),(Mz 79),(83,(.bool false))] [(Vm (Uh x15) (Ue x15)),(Vn x18.1 (Ur x18)),Z7] (ci (gI (Th x3)) (ci (gI (Th x3)) (ci (Gh (x3.1==0)) (ci (gI (Pz x3 x9)) (ci hc11 (ci (gI (Pz x3 x9)) (ci (gI (Pz x3 x9)) (ci (Gh (P6 x3 x9)) (ci (gI (Py x3 x9)) (ci hc12 (ci (gI (Py x3 x9)) (ci (gI (Py x3 x9)) (ci (Gh (bif (P6 x3 x9) then(Ui x9) else false)) (ci (gI ((N5 x3 x9)==true)) (ci (Gh (N5 x3 x9)) (ci (gI (Tg x3 x9 x5)) (ci (gI (Tg x3 x9 x5)) (ci (Gh (bif (N5 x3 x9) then(Ug x5) else false)) (ci (gI ((Ls x3 x9 x5)==true)) (ci hc13 (ci (gI ((Ls x3 x9 x5)==true)) (ci (gI ((Ls x3 x9 x5)==true)) (ci (Gh (Ls x3 x9 x5)) (ci (gI ((P0 x3 x9 x5)==true)) (ci (Gh (P0 x3 x9 x5)) (ci (show(AVle (.bool (bif (P0 x3 x9 x5) then(x7.2.1==8) else false)) (.bool true)) from(Bk hs14)) (ci (show((true==true)=true→(true==true)=true) from(fun _=>rfl)) (ci (show((true==true)=true→(Spec Try.prog 21 [(.ptr 30000 0)] (Vl x9) (Uh x15) (Ue x15))) from(fun _=>(Cx x9.2.2 x9.2.1 x15 hx15))) (ci (show((true==true)=true→(true==true)=true) from(fun _=>rfl)) (ci (show((true==true)=true→(true==true)=true) from(fun _=>rfl)) (ci (show(true=true→(true==true)=true) from(fun _=>rfl)) (ci (show(AVle (.bool (((x15.1.length:Int):Int)==6)) (.bool true)) from(Bk hs17)) (ci (show((true==true)=true→(true==true)=true) from(fun _=>rfl)) (ci (show((true==true)=true→(Spec Try.prog 16 [(.ptr 30000 0),Ti,(.int .i64 (1:Int))] (V3 x15) (.bool x18.1) (Ur x18))) from(fun _=>(Bw (3:Int) (1:Int) x15.2.2 x15.2.1 x18 hx18))) (ci (show(true=true→(true==true)=true) from(fun _=>rfl)) (ci (show(AVle (.bool x18.1) (.bool false)) from(Bk hs20)) (ci (show((false==true)=true→(false==true)=true) from B0) (ci (show((false==true)=true→(Spec Try.prog 16 [.any,Ti,(.int .i64 (2:Int))] [] (.bool false) [])) from B0) (ci (show((false==true)=true→(false==true)=true) from B0) (c1 (show(false=true→(false==true)=true) from B0))))))))))))))))))))))))))))))))))))))))) ?_;obtain rfl:=OI h;exact Ha []
    ·refine gR hq [0] [] [(Mz 73),(79,(.bool false))] [(Vm (Uh x15) (Ue x15)),Z7,Z7] (ci (gI (Th x3)) (ci (gI (Th x3)) (ci (Gh (x3.1==0)) (ci (gI (Pz x3 x9)) (ci hc11 (ci (gI (Pz x3 x9)) (ci (gI (Pz x3 x9)) (ci (Gh (P6 x3 x9)) (ci (gI (Py x3 x9)) (ci hc12 (ci (gI (Py x3 x9)) (ci (gI (Py x3 x9)) (ci (Gh (bif (P6 x3 x9) then(Ui x9) else false)) (ci (gI ((N5 x3 x9)==true)) (ci (Gh (N5 x3 x9)) (ci (gI (Tg x3 x9 x5)) (ci (gI (Tg x3 x9 x5)) (ci (Gh (bif (N5 x3 x9) then(Ug x5) else false)) (ci (gI ((Ls x3 x9 x5)==true)) (ci hc13 (ci (gI ((Ls x3 x9 x5)==true)) (ci (gI ((Ls x3 x9 x5)==true)) (ci (Gh (Ls x3 x9 x5)) (ci (gI ((P0 x3 x9 x5)==true)) (ci (Gh (P0 x3 x9 x5)) (ci (show(AVle (.bool (bif (P0 x3 x9 x5) then(x7.2.1==8) else false)) (.bool true)) from(Bk hs14)) (ci (show((true==true)=true→(true==true)=true) from(fun _=>rfl)) (ci (show((true==true)=true→(Spec Try.prog 21 [(.ptr 30000 0)] (Vl x9) (Uh x15) (Ue x15))) from(fun _=>(Cx x9.2.2 x9.2.1 x15 hx15))) (ci (show((true==true)=true→(true==true)=true) from(fun _=>rfl)) (ci (show((true==true)=true→(true==true)=true) from(fun _=>rfl)) (ci (show(true=true→(true==true)=true) from(fun _=>rfl)) (ci (show(AVle (.bool (((x15.1.length:Int):Int)==6)) (.bool false)) from(Bk hs17)) (ci (show((false==true)=true→(false==true)=true) from B0) (ci (show((false==true)=true→(Spec Try.prog 16 [.any,Ti,(.int .i64 (1:Int))] [] (.bool false) [])) from B0) (ci (show(false=true→(false==true)=true) from B0) (ci (show((false==true)=true→(false==true)=true) from B0) (ci (show((false==true)=true→(Spec Try.prog 16 [.any,Ti,(.int .i64 (2:Int))] [] (.bool false) [])) from B0) (ci (show((false==true)=true→(false==true)=true) from B0) (c1 (show(false=true→(false==true)=true) from B0)))))))))))))))))))))))))))))))))))))))) ?_;obtain rfl:=OI h;exact Ha []
   ·refine gR hq [0] [] [(73,(.bool false))] [⟨[],[],Vo,[],[]⟩,Z7,Z7] (ci (gI (Th x3)) (ci (gI (Th x3)) (ci (Gh (x3.1==0)) (ci (gI (Pz x3 x9)) (ci hc11 (ci (gI (Pz x3 x9)) (ci (gI (Pz x3 x9)) (ci (Gh (P6 x3 x9)) (ci (gI (Py x3 x9)) (ci hc12 (ci (gI (Py x3 x9)) (ci (gI (Py x3 x9)) (ci (Gh (bif (P6 x3 x9) then(Ui x9) else false)) (ci (gI ((N5 x3 x9)==true)) (ci (Gh (N5 x3 x9)) (ci (gI (Tg x3 x9 x5)) (ci (gI (Tg x3 x9 x5)) (ci (Gh (bif (N5 x3 x9) then(Ug x5) else false)) (ci (gI ((Ls x3 x9 x5)==true)) (ci hc13 (ci (gI ((Ls x3 x9 x5)==true)) (ci (gI ((Ls x3 x9 x5)==true)) (ci (Gh (Ls x3 x9 x5)) (ci (gI ((P0 x3 x9 x5)==true)) (ci (Gh (P0 x3 x9 x5)) (ci (show(AVle (.bool (bif (P0 x3 x9 x5) then(x7.2.1==8) else false)) (.bool false)) from(Bk hs14)) (ci (show((false==true)=true→(false==true)=true) from B0) (ci (show((false==true)=true→(Spec Try.prog 21 [.any] [] Vo [])) from B0) (ci (show((false==true)=true→(false==true)=true) from B0) (ci (show((false==true)=true→(false==true)=true) from B0) (ci (show(false=true→(false==true)=true) from B0) (ci (show((false==true)=true→(false==true)=true) from B0) (ci (show((false==true)=true→(Spec Try.prog 16 [.any,Ti,(.int .i64 (1:Int))] [] (.bool false) [])) from B0) (ci (show(false=true→(false==true)=true) from B0) (ci (show((false==true)=true→(false==true)=true) from B0) (ci (show((false==true)=true→(Spec Try.prog 16 [.any,Ti,(.int .i64 (2:Int))] [] (.bool false) [])) from B0) (ci (show((false==true)=true→(false==true)=true) from B0) (c1 (show(false=true→(false==true)=true) from B0))))))))))))))))))))))))))))))))))))))) ?_;obtain rfl:=OI h;exact Ha []
 ·refine gR hq [1,2] [] [(10,(AV.list 1 Cn 0 R6 .exact))] [⟨[],[],(.tuple [(bif false then((.ptr 20000 0):AV) else .nilp),(Ia x1.2)]),(bif false then(Uf x1) else[]),[]⟩] (ci (Gr 1 Cn (0:Int) R6) (c1 (show(Spec Try.prog 10 [(AV.list 1 Cn 0 R6 .none)] [] (.tuple [(bif false then((.ptr 20000 0):AV) else .nilp),(Ia x1.2)]) (bif false then(Uf x1) else[])) from(Vh (fun b_:Bool=>Spec Try.prog 10 [(AV.list 1 Cn 0 R6 .none)] [] (.tuple [(bif b_ then((.ptr 20000 0):AV) else .nilp),(Ia x1.2)]) (bif b_ then(Uf x1) else[])) hs2 (Eo R6 x1 hx1))))) ?_;refine gR hq [1,19] [] [] [] (ci (show((true==false)=true→(true==false)=true) from B0) (c1 (show(true=false→(true==false)=true) from V9))) ?_;refine Uk true ?_;refine Ct hq [0] [] ?_;obtain rfl:=OI h;exact Ha []
def Us(x1:List Int):=(fun i=>Cn (x1.getD i 0))
def Bm(a0:List Int)(a2:List Aa):Option (List Int×List Aa×List Int):=
 ((Ai a0).bind fun x1=>(some (x1,a2,a0)))
theorem Dd(a0:List Int)(a2:List Aa)(r:(List Int×List Aa×List Int))(h:Bm a0 a2=some r):Spec Try.prog 19 [(.ptr 30000 0)] [(30000,.row 63 [(.vsl 35000 a0.length),(AV.list 3 Ah default a2 .none)]),(35000,.arr 1 5 a0.length (fun i=>Cn (a0.getD i 0)))] (AV.list 1 Cn 0 r.1 (.own 20000)) [(30000,.row 63 [(.vsl 35000 r.2.2.length),(AV.list 3 Ah default r.2.1 .none)]),(35000,.arr 1 5 r.2.2.length (fun i=>Cn (r.2.2.getD i 0))),(20000,.tok 1 5 r.1.length)]:=by
 refine A8 mix Try.func19 (fun Γ hq=>?_);have hΓ:=hq.own;unfold Bm at h;refine gR hq [0] [30000,35000] [(2,(AV.list 1 Cn 0 ([]:List Int) .exact))] [] (c1 (Co 1 Cn (0:Int))) ?_;refine Ct hq [0,4] [30000,35000] ?_;refine Uk false ?_;obtain⟨x1,hx1,h⟩:=bind_some h;refine gR hq [2] [9,30000,35000] [] [⟨[],[(20000,9)],(.vsl 20000 x1.length),[(20000,.arr 1 5 x1.length (Us x1))],[35000]⟩] (ci (Bf a0 x1 hx1) (ci (show(Gw [(20000,.arr 1 5 x1.length (Us x1))]) from⟨(fun _ _=>rfl),trivial⟩) (c1 (Eq.refl a0.length)))) ?_;refine Sm (⟨[(2,(.vsl 9 x1.length))],[(9,.arr 1 5 x1.length (Us x1)),(Z5 30000 35000 a0.length a2),(Z1 35000 a0)],[]⟩:St) ?_;cases h;exact gK (e:=.ret) (Pd [(30000,30000),(35000,35000),(9,20000)] (Le.trans (Hg (nm:=9) (sz:=1) (n:=x1.length) (e:=5) (f:=(Us x1)) (g:=(Us x1)) rfl ⟨rfl,trivial⟩ (fun _ _=>rfl) (by rw[hΓ];rfl)) (Re (st':=⟨[(2,(AV.list 1 Cn 0 x1 (.own 9)))],[(9,.tok 1 5 x1.length),(Z5 30000 35000 a0.length a2),(Z1 35000 a0)],[]⟩) (by kernel_rfl))))
def Bn(a0:List Int)(a2:List Aa):Option (List Aa×List Aa×List Int):=
 ((Ak a2).bind fun x1=>(some (x1,a2,a0)))
theorem F1(a0:List Int)(a2:List Aa)(r:(List Aa×List Aa×List Int))(h:Bn a0 a2=some r):Spec Try.prog 21 [(.ptr 30000 0)] [(30000,.row 63 [(.vsl 35000 a0.length),(AV.list 3 Ah default a2 .none)]),(35000,.arr 1 5 a0.length (fun i=>Cn (a0.getD i 0)))] (AV.list 3 Ah default r.1 (.own 20000)) [(30000,.row 63 [(.vsl 35000 r.2.2.length),(AV.list 3 Ah default r.2.1 .none)]),(35000,.arr 1 5 r.2.2.length (fun i=>Cn (r.2.2.getD i 0))),(20000,.tok 3 49 r.1.length)]:=by
 refine A8 mix Try.func21 (fun Γ hq=>?_);unfold Bn at h;refine gR hq [0] [30000,35000] [(2,Z8)] [] (c1 (Co 3 Ah (default:Aa))) ?_;refine Ct hq [0,4] [30000,35000] ?_;refine Uk false ?_;obtain⟨x1,hx1,h⟩:=bind_some h;refine gR hq [2] [9,30000,35000] [] [⟨[],[(20000,9)],(Uu x1),[(20000,.tok 3 49 x1.length)],[]⟩] (c1 (Bh a2 x1 hx1)) ?_;cases h;exact Ha [(30000,30000),(35000,35000),(9,20000)]
def O0(a1:Int):=((bif false then true else(decide (a1<1)))==false)
def Ay(a3:Int)(a1:Int)(a0:List Int)(a2:List Aa):Option (Bool×List Aa×List Int):=
 (bif (bif (bif false then true else(decide (a1<1))) then true else(decide (((a0.length:Int):Int)<a1))) then(some (false,a2,a0)) else(some ((decide (a3≤(Et (Eb ((a0.length:Int)-a1))))),a2,a0)))
theorem Af(a3:Int)(a1:Int)(a0:List Int)(a2:List Aa)(r:(Bool×List Aa×List Int))(h:Ay a3 a1 a0 a2=some r):Spec Try.prog 16 [(.ptr 30000 0),(.int .u64 a3),(.int .i64 a1)] [(30000,.row 63 [(.vsl 35000 a0.length),(AV.list 3 Ah default a2 .none)]),(35000,.arr 1 5 a0.length (fun i=>Cn (a0.getD i 0)))] (.bool r.1) [(30000,.row 63 [(.vsl 35000 r.2.2.length),(AV.list 3 Ah default r.2.1 .none)]),(35000,.arr 1 5 r.2.2.length (fun i=>Cn (r.2.2.getD i 0)))]:=by
 refine A8 mix Try.func16 (fun Γ hq=>?_);unfold Ay at h;refine Ct hq [0,1,2] [30000,35000] ?_;refine gR hq [0,1,2,21] [30000,35000] [] [] (ci (gI (false==false)) (ci (Tm false) (ci (gI (O0 a1)) (ci (gI (O0 a1)) (ci (gI (O0 a1)) (ci (gI (O0 a1)) (ci (gI (O0 a1)) (ci (gI (O0 a1)) (c1 (Tm (bif false then true else(decide (a1<1))))))))))))) ?_;refine gC h (fun h=>?_) (fun h=>?_)
 ·refine Ct hq [6] [30000,35000] ?_;cases h;exact Ha [(30000,30000),(35000,35000)]
 ·refine Ct hq [6] [30000,35000] ?_;cases h;exact Ha [(30000,30000),(35000,35000)]
def C9(a1:Int):=(Int.tmod (Eb a1) (4097:Int))
def Sd(a1:Int):=(List.replicate (C9 a1).toNat (0:Int))
def O2:AV:=(AV.list 1 Cn 0 ([]:List Int) .none)
def P5(x10:(Bool×List Aa×List Int))(a1:Int):AV:=(.bool (x10.1==(decide (((0:Int):Int)<(C9 a1)))))
def Lr:AV:=Vo
def Sb:=(fun i:Nat=>AV.stripAll ((fun _=>[(.int .u8 (0:Int))]) i))
def M2(x6:(Bool×List Aa×List Int))(a1:Int)(a4:Int):=((x6.1==true)&&((decide (((Et (C9 a1)):Int)≤a4))==false))
def Sc(a1:Int):List AV:=[(.ptr 30000 0),(.int .u64 (0:Int)),(.int .i64 (Eb ((C9 a1)+1)))]
def O1(x8:(Bool×List Aa×List Int))(x6:(Bool×List Aa×List Int))(a6:(Int×Int)):=(bif (bif x8.1 then(!x6.1) else false) then(decide (((0:Int):Int)<a6.1)) else false)
def Im(x13:(Bool×List Aa×List Int)):List (Nat×Own):=[(Z5 30000 35000 x13.2.2.length x13.2.1),(Z1 35000 x13.2.2)]
def Kz(x10:(Bool×List Aa×List Int)):List (Nat×Own):=[(Z5 30000 35000 x10.2.2.length x10.2.1),(Z1 35000 x10.2.2)]
def Lq(x16:(Bool×List Aa×List Int)):List (Nat×Own):=[(Z5 30000 35000 x16.2.2.length x16.2.1),(Z1 35000 x16.2.2)]
def Sa(x19:(List Int×List Aa×List Int)):List (Nat×Own):=[(Z5 30000 35000 x19.2.2.length x19.2.1),(Z1 35000 x19.2.2),(20000,.tok 1 5 x19.1.length)]
def Up(x22:(List Aa×List Aa×List Int)):List (Nat×Own):=[(Z5 30000 35000 x22.2.2.length x22.2.1),(Z1 35000 x22.2.2),(20000,.tok 3 49 x22.1.length)]
def Lp(x3:((Bool×J7)×Int)):List (Nat×Own):=(Ts 20000 21000 x3.1.2.bytes.length x3.1.2.trace 21001 x3.1.2.bytes x3.1.2.trace.length)
def Bd(a1:Int)(a4:Int)(a6:(Int×Int)):Option Bool:=
 (m_locksteplaw12_awake.bind fun x1=>(bif (!x1) then(some false) else(D6 (0≤(Int.tmod (Eb a1) (4097:Int))∧(Int.tmod (Eb a1) (4097:Int))≤(Int.tmod (Eb a1) (4097:Int))∧(Int.tmod (Eb a1) (4097:Int))≤(room:Int)) ((Dj (List.replicate (Int.tmod (Eb a1) (4097:Int)).toNat (0:Int))).bind fun x3=>(bif x3.1.1 then(D6 (x3.1.2.trace.length=0) (bif (x3.2 !=0) then(some false) else((Ay a4 (Eb a6.1) x3.1.2.bytes x3.1.2.trace).bind fun x6=>(D6 (x3.1.2.bytes.length=x6.2.2.length) ((Ay a4 (Eb ((Eb a6.1)+(Eb a6.2))) x6.2.2 x6.2.1).bind fun x8=>(D6 (x6.2.2.length=x8.2.2.length) (bif (bif (bif (bif x8.1 then(!x6.1) else false) then(decide (((0:Int):Int)<a6.1)) else false) then true else(bif (a6.1==0) then x6.1 else false)) then(some false) else(bif (bif x6.1 then(bif (decide (((Et (Int.tmod (Eb a1) (4097:Int))):Int)≤a4)) then true else(decide (((Et (Int.tmod (Eb a1) (4097:Int))):Int)<(Et (a4+(Et a6.1)))))) else false) then(some false) else((Ay (0:Int) (Int.tmod (Eb a1) (4097:Int)) x8.2.2 x8.2.1).bind fun x10=>(D6 (x8.2.2.length=x10.2.2.length) (bif (x10.1==(decide (((0:Int):Int)<(Int.tmod (Eb a1) (4097:Int))))) then((Ay (0:Int) (Eb ((Int.tmod (Eb a1) (4097:Int))+1)) x10.2.2 x10.2.1).bind fun x13=>(D6 (x10.2.2.length=x13.2.2.length) (bif (!x13.1) then((Ay a4 (0:Int) x13.2.2 x13.2.1).bind fun x16=>(D6 (x13.2.2.length=x16.2.2.length) (bif (!x16.1) then((Bm x16.2.2 x16.2.1).bind fun x19=>(D6 (x16.2.2.length=x19.2.2.length) (bif (((x19.1.length:Int):Int)==(Int.tmod (Eb a1) (4097:Int))) then((Bn x19.2.2 x19.2.1).bind fun x22=>(D6 (x19.2.2.length=x22.2.2.length) (some (((x22.1.length:Int):Int)==0)))) else(some false)))) else(some false)))) else(some false)))) else(some false)))))))))))) else(some false))))))
theorem ok_locksteplaw12_MemThere(a1:Int)(a4:Int)(a6:(Int×Int))(r:Bool)(h:Bd a1 a4 a6=some r):Spec Try.prog 8 [(.int .u16 a1),(.int .u64 a4),(.agg (eA2U8 a6))] [] (.bool r) []:=by
 refine A8 mix Try.func8 (fun Γ hq=>?_);unfold Bd at h;refine Ct hq [0,1,5] [5] ?_;obtain⟨x1,hx1,h⟩:=bind_some h;refine gR hq [0,1,5,15] [5] [] [⟨[],[],(.bool x1),[],[]⟩] (c1 (En  x1 hx1)) ?_;refine gC h (fun h=>?_) (fun h=>?_)
 ·refine Ct hq [6] [] ?_;obtain rfl:=OI h;exact Ha []
 ·refine gR hq [0,1,5,7] [5] [] [] (c1 (show(Gc (0:Int) 2) from(by decide))) ?_;refine gR hq [0,1,7,8] [] [] [] (c1 (show(Gc (1:Int) 2) from(by decide))) ?_;refine gR hq [1,7,8,9] [] [] [] (c1 (show((4097:Int)≠0) from(by decide))) ?_;obtain⟨hc2,h⟩:=Ap h;obtain⟨x3,hx3,h⟩:=bind_some h;refine gB h (fun hs4 h=>?_) (fun hs4 h=>?_)
  ·obtain⟨hc5,h⟩:=Ap h;refine gR hq [1,7,8,9,10,11] [26,60026000,60026001] [] [⟨[],[(20000,26),(21000,60026000),(21001,60026001)],(.tuple [(bif true then((.ptr 20000 0):AV) else .nilp),(Ia x3.2)]),(bif true then(Lp x3) else[]),[25]⟩] (ci hc2 (ci (show(Spec Try.prog 10 [(.slice 1 ((C9 a1).toNat) Sb .none)] [] (.tuple [(bif true then((.ptr 20000 0):AV) else .nilp),(Ia x3.2)]) (bif true then(Lp x3) else[])) from(Vh (fun b_:Bool=>Spec Try.prog 10 [(.slice 1 ((C9 a1).toNat) Sb .none)] [] (.tuple [(bif b_ then((.ptr 20000 0):AV) else .nilp),(Ia x3.2)]) (bif b_ then(Lp x3) else[])) hs4 (Spec.args (.cons (Ou (e:=Cn) (d:=(0:Int)) (l:=(Sd a1)) (List.length_replicate ..).symm (Oi (e:=Cn) (d:=(0:Int)) rfl) (fun _=>rfl)) .nil) (Eo (Sd a1) x3 hx3)))) (ci (show(Gw (bif true then(Lp x3) else[])) from⟨⟨rfl,⟨trivial,⟨hc5,trivial⟩⟩⟩,⟨(fun _ _=>rfl),⟨trivial,trivial⟩⟩⟩) (c1 (Eq.refl ((C9 a1).toNat)))))) ?_;refine gR hq [1,7,8,9,10,34] [26,60026000,60026001] [] [] (ci (show((false==false)=true→(false==false)=true) from(fun _=>rfl)) (c1 (show(false=false→(false==false)=true) from(fun _=>rfl)))) ?_;refine gC h (fun h=>?_) (fun h=>?_)
   ·refine Ct hq [6] [] ?_;obtain rfl:=OI h;exact Ha []
   ·refine Sm (⟨[(1,(.int .u64 a4)),(7,(.int .u8 a6.1)),(8,(.int .u8 a6.2)),(9,(Ia (C9 a1))),(10,(.ptr 26 0)),(34,(.bool (x3.2 !=0)))],(Ts 26 60026000 x3.1.2.bytes.length x3.1.2.trace 60026001 x3.1.2.bytes x3.1.2.trace.length),[]⟩:St) ?_;refine U0 (show Le Γ _ (⟨[(1,(.int .u64 a4)),(7,(.int .u8 a6.1)),(8,(.int .u8 a6.2)),(9,(Ia (C9 a1))),(10,(.ptr 26 0)),(34,(.bool (x3.2 !=0)))],[(Z5 26 60026000 x3.1.2.bytes.length x3.1.2.trace),(Z1 60026000 x3.1.2.bytes)],[]⟩:St) from Jy [1,7,8,9,10,34] [26,60026000] hq) ?_;obtain⟨x6,hx6,h⟩:=bind_some h;obtain⟨hc7,h⟩:=Ap h;refine gR hq [1,7,8,9,10,12] [26,60026000] [] [⟨[(26,30000),(60026000,35000)],[],(.bool x6.1),[(Z5 30000 35000 x6.2.2.length x6.2.1),(Z1 35000 x6.2.2)],[]⟩] (c1 (Af a4 (Eb a6.1) x3.1.2.bytes x3.1.2.trace x6 hx6)) ?_;obtain⟨x8,hx8,h⟩:=bind_some h;obtain⟨hc9,h⟩:=Ap h;refine gR hq [1,7,9,10,12,13] [26,60026000] [] [⟨[(26,30000),(60026000,35000)],[],(.bool x8.1),[(Z5 30000 35000 x8.2.2.length x8.2.1),(Z1 35000 x8.2.2)],[]⟩] (c1 (Af a4 (Eb ((Eb a6.1)+(Eb a6.2))) x6.2.2 x6.2.1 x8 hx8)) ?_;refine gR hq [1,7,9,10,12,63] [26,60026000] [] [] (ci (gI (x8.1==true)) (ci (Gh x8.1) (ci (gI ((bif x8.1 then(!x6.1) else false)==true)) (ci (Gh (bif x8.1 then(!x6.1) else false)) (ci (gI ((O1 x8 x6 a6)==false)) (ci (gI ((O1 x8 x6 a6)==false)) (ci (gI ((O1 x8 x6 a6)==false)) (ci (show(((O1 x8 x6 a6)==false)=true→((a6.1==0)=true→(((O1 x8 x6 a6)==false)&&((a6.1==0)==true))=true)) from(fun hg=>(aT hg))) (c1 (Tm (O1 x8 x6 a6))))))))))) ?_;refine gC h (fun h=>?_) (fun h=>?_)
    ·refine Ct hq [6] [] ?_;obtain rfl:=OI h;exact Ha []
    ·refine gR hq [1,9,10,79] [26,60026000] [] [] (ci (gI (x6.1==true)) (ci (gI (x6.1==true)) (ci (gI (x6.1==true)) (ci (gI (x6.1==true)) (ci (gI (M2 x6 a1 a4)) (ci (gI (M2 x6 a1 a4)) (ci (gI (M2 x6 a1 a4)) (ci (gI (M2 x6 a1 a4)) (ci (gI (M2 x6 a1 a4)) (ci (gI (M2 x6 a1 a4)) (ci (gI (x6.1==true)) (ci (show((x6.1==true)=true→((decide (((Et (C9 a1)):Int)≤a4))=false→(M2 x6 a1 a4)=true)) from(fun hg=>(aF hg))) (c1 (Gh x6.1)))))))))))))) ?_;refine gC h (fun h=>?_) (fun h=>?_)
     ·refine Ct hq [6] [] ?_;obtain rfl:=OI h;exact Ha []
     ·obtain⟨x10,hx10,h⟩:=bind_some h;obtain⟨hc11,h⟩:=Ap h;refine gB h (fun hs12 h=>?_) (fun hs12 h=>?_)
      ·obtain⟨x13,hx13,h⟩:=bind_some h;obtain⟨hc14,h⟩:=Ap h;refine gB h (fun hs15 h=>?_) (fun hs15 h=>?_)
       ·obtain⟨x16,hx16,h⟩:=bind_some h;obtain⟨hc17,h⟩:=Ap h;refine gB h (fun hs18 h=>?_) (fun hs18 h=>?_)
        ·obtain⟨x19,hx19,h⟩:=bind_some h;obtain⟨hc20,h⟩:=Ap h;refine gB h (fun hs21 h=>?_) (fun hs21 h=>?_)
         ·obtain⟨x22,hx22,h⟩:=bind_some h;obtain⟨hc23,h⟩:=Ap h;refine gR hq [6] [] [(Mz 86),(Mz 93),(Mz 99),(Mz 106)] [(Z3 x10.1 (Kz x10)),(Z3 x13.1 (Im x13)),(Z3 x16.1 (Lq x16)),⟨[(26,30000),(60026000,35000)],[(20000,101)],(Uv x19.1),(Sa x19),[]⟩,⟨[(26,30000),(60026000,35000)],[(20000,108)],(Uu x22.1),(Up x22),[]⟩] (ci (Af (0:Int) (C9 a1) x8.2.2 x8.2.1 x10 hx10) (ci (show(AVle (P5 x10 a1) (.bool true)) from(Bk hs12)) (ci (show((true==true)=true→(true==true)=true) from(fun _=>rfl)) (ci (show((true==true)=true→(true==true)=true) from(fun _=>rfl)) (ci (show((true==true)=true→(true==true)=true) from(fun _=>rfl)) (ci (show((true==true)=true→(Spec Try.prog 16 (Sc a1) (Kz x10) (.bool x13.1) (Im x13))) from(fun _=>(Af (0:Int) (Eb ((C9 a1)+1)) x10.2.2 x10.2.1 x13 hx13))) (ci (show((true==true)=true→(true==true)=true) from(fun _=>rfl)) (ci (show(true=true→(true==true)=true) from(fun _=>rfl)) (ci (show(AVle (.bool (!x13.1)) (.bool true)) from(Bk hs15)) (ci (show((true==true)=true→(true==true)=true) from(fun _=>rfl)) (ci (show((true==true)=true→(true==true)=true) from(fun _=>rfl)) (ci (show((true==true)=true→(Spec Try.prog 16 [(.ptr 30000 0),(.int .u64 a4),Se] (Im x13) (.bool x16.1) (Lq x16))) from(fun _=>(Af a4 (0:Int) x13.2.2 x13.2.1 x16 hx16))) (ci (show((true==true)=true→(true==true)=true) from(fun _=>rfl)) (ci (show(true=true→(true==true)=true) from(fun _=>rfl)) (ci (show(AVle (.bool (!x16.1)) (.bool true)) from(Bk hs18)) (ci (show((true==true)=true→(true==true)=true) from(fun _=>rfl)) (ci (show((true==true)=true→(Spec Try.prog 19 [(.ptr 30000 0)] (Lq x16) (Uv x19.1) (Sa x19))) from(fun _=>(Dd x16.2.2 x16.2.1 x19 hx19))) (ci (show((true==true)=true→(true==true)=true) from(fun _=>rfl)) (ci (show((true==true)=true→(true==true)=true) from(fun _=>rfl)) (ci (show((true==true)=true→(true==true)=true) from(fun _=>rfl)) (ci (show(true=true→(true==true)=true) from(fun _=>rfl)) (ci (show(AVle (.bool (((x19.1.length:Int):Int)==(C9 a1))) (.bool true)) from(Bk hs21)) (ci (show((true==true)=true→(true==true)=true) from(fun _=>rfl)) (ci (show((true==true)=true→(Spec Try.prog 21 [(.ptr 30000 0)] [(Z5 30000 35000 x19.2.2.length x19.2.1),(Z1 35000 x19.2.2)] (Uu x22.1) (Up x22))) from(fun _=>(F1 x19.2.2 x19.2.1 x22 hx22))) (ci (show((true==true)=true→(true==true)=true) from(fun _=>rfl)) (ci (show((true==true)=true→(true==true)=true) from(fun _=>rfl)) (c1 (show(true=true→(true==true)=true) from(fun _=>rfl))))))))))))))))))))))))))))) ?_;cases h;exact Ha []
         ·refine gR hq [6] [] [(Mz 86),(Mz 93),(Mz 99),(106,(.bool false))] [(Z3 x10.1 (Kz x10)),(Z3 x13.1 (Im x13)),(Z3 x16.1 (Lq x16)),⟨[(26,30000),(60026000,35000)],[(20000,101)],(Uv x19.1),(Sa x19),[]⟩,⟨[],[],Lr,[],[]⟩] (ci (Af (0:Int) (C9 a1) x8.2.2 x8.2.1 x10 hx10) (ci (show(AVle (P5 x10 a1) (.bool true)) from(Bk hs12)) (ci (show((true==true)=true→(true==true)=true) from(fun _=>rfl)) (ci (show((true==true)=true→(true==true)=true) from(fun _=>rfl)) (ci (show((true==true)=true→(true==true)=true) from(fun _=>rfl)) (ci (show((true==true)=true→(Spec Try.prog 16 (Sc a1) (Kz x10) (.bool x13.1) (Im x13))) from(fun _=>(Af (0:Int) (Eb ((C9 a1)+1)) x10.2.2 x10.2.1 x13 hx13))) (ci (show((true==true)=true→(true==true)=true) from(fun _=>rfl)) (ci (show(true=true→(true==true)=true) from(fun _=>rfl)) (ci (show(AVle (.bool (!x13.1)) (.bool true)) from(Bk hs15)) (ci (show((true==true)=true→(true==true)=true) from(fun _=>rfl)) (ci (show((true==true)=true→(true==true)=true) from(fun _=>rfl)) (ci (show((true==true)=true→(Spec Try.prog 16 [(.ptr 30000 0),(.int .u64 a4),Se] (Im x13) (.bool x16.1) (Lq x16))) from(fun _=>(Af a4 (0:Int) x13.2.2 x13.2.1 x16 hx16))) (ci (show((true==true)=true→(true==true)=true) from(fun _=>rfl)) (ci (show(true=true→(true==true)=true) from(fun _=>rfl)) (ci (show(AVle (.bool (!x16.1)) (.bool true)) from(Bk hs18)) (ci (show((true==true)=true→(true==true)=true) from(fun _=>rfl)) (ci (show((true==true)=true→(Spec Try.prog 19 [(.ptr 30000 0)] (Lq x16) (Uv x19.1) (Sa x19))) from(fun _=>(Dd x16.2.2 x16.2.1 x19 hx19))) (ci (show((true==true)=true→(true==true)=true) from(fun _=>rfl)) (ci (show((true==true)=true→(true==true)=true) from(fun _=>rfl)) (ci (show((true==true)=true→(true==true)=true) from(fun _=>rfl)) (ci (show(true=true→(true==true)=true) from(fun _=>rfl)) (ci (show(AVle (.bool (((x19.1.length:Int):Int)==(C9 a1))) (.bool false)) from(Bk hs21)) (ci (show((false==true)=true→(false==true)=true) from B0) (ci (show((false==true)=true→(Spec Try.prog 21 [.any] [] Lr [])) from B0) (ci (show((false==true)=true→(false==true)=true) from B0) (ci (show((false==true)=true→(false==true)=true) from B0) (c1 (show(false=true→(false==true)=true) from B0)))))))))))))))))))))))))))) ?_;obtain rfl:=OI h;exact Ha []
        ·refine gR hq [6] [] [(Mz 86),(Mz 93),(99,(.bool false))] [(Z3 x10.1 (Kz x10)),(Z3 x13.1 (Im x13)),(Z3 x16.1 (Lq x16)),⟨[],[],O2,[],[]⟩,⟨[],[],Lr,[],[]⟩] (ci (Af (0:Int) (C9 a1) x8.2.2 x8.2.1 x10 hx10) (ci (show(AVle (P5 x10 a1) (.bool true)) from(Bk hs12)) (ci (show((true==true)=true→(true==true)=true) from(fun _=>rfl)) (ci (show((true==true)=true→(true==true)=true) from(fun _=>rfl)) (ci (show((true==true)=true→(true==true)=true) from(fun _=>rfl)) (ci (show((true==true)=true→(Spec Try.prog 16 (Sc a1) (Kz x10) (.bool x13.1) (Im x13))) from(fun _=>(Af (0:Int) (Eb ((C9 a1)+1)) x10.2.2 x10.2.1 x13 hx13))) (ci (show((true==true)=true→(true==true)=true) from(fun _=>rfl)) (ci (show(true=true→(true==true)=true) from(fun _=>rfl)) (ci (show(AVle (.bool (!x13.1)) (.bool true)) from(Bk hs15)) (ci (show((true==true)=true→(true==true)=true) from(fun _=>rfl)) (ci (show((true==true)=true→(true==true)=true) from(fun _=>rfl)) (ci (show((true==true)=true→(Spec Try.prog 16 [(.ptr 30000 0),(.int .u64 a4),Se] (Im x13) (.bool x16.1) (Lq x16))) from(fun _=>(Af a4 (0:Int) x13.2.2 x13.2.1 x16 hx16))) (ci (show((true==true)=true→(true==true)=true) from(fun _=>rfl)) (ci (show(true=true→(true==true)=true) from(fun _=>rfl)) (ci (show(AVle (.bool (!x16.1)) (.bool false)) from(Bk hs18)) (ci (show((false==true)=true→(false==true)=true) from B0) (ci (show((false==true)=true→(Spec Try.prog 19 [.any] [] O2 [])) from B0) (ci (show((false==true)=true→(false==true)=true) from B0) (ci (show((false==true)=true→(false==true)=true) from B0) (ci (show((false==true)=true→(false==true)=true) from B0) (ci (show(false=true→(false==true)=true) from B0) (ci (show((false==true)=true→(false==true)=true) from B0) (ci (show((false==true)=true→(Spec Try.prog 21 [.any] [] Lr [])) from B0) (ci (show((false==true)=true→(false==true)=true) from B0) (ci (show((false==true)=true→(false==true)=true) from B0) (c1 (show(false=true→(false==true)=true) from B0))))))))))))))))))))))))))) ?_;obtain rfl:=OI h;exact Ha []
       ·refine gR hq [6] [] [(Mz 86),(93,(.bool false))] [(Z3 x10.1 (Kz x10)),(Z3 x13.1 (Im x13)),Z7,⟨[],[],O2,[],[]⟩,⟨[],[],Lr,[],[]⟩] (ci (Af (0:Int) (C9 a1) x8.2.2 x8.2.1 x10 hx10) (ci (show(AVle (P5 x10 a1) (.bool true)) from(Bk hs12)) (ci (show((true==true)=true→(true==true)=true) from(fun _=>rfl)) (ci (show((true==true)=true→(true==true)=true) from(fun _=>rfl)) (ci (show((true==true)=true→(true==true)=true) from(fun _=>rfl)) (ci (show((true==true)=true→(Spec Try.prog 16 (Sc a1) (Kz x10) (.bool x13.1) (Im x13))) from(fun _=>(Af (0:Int) (Eb ((C9 a1)+1)) x10.2.2 x10.2.1 x13 hx13))) (ci (show((true==true)=true→(true==true)=true) from(fun _=>rfl)) (ci (show(true=true→(true==true)=true) from(fun _=>rfl)) (ci (show(AVle (.bool (!x13.1)) (.bool false)) from(Bk hs15)) (ci (show((false==true)=true→(false==true)=true) from B0) (ci (show((false==true)=true→(false==true)=true) from B0) (ci (show((false==true)=true→(Spec Try.prog 16 [.any,(.int .u64 a4),Se] [] (.bool false) [])) from B0) (ci (show((false==true)=true→(false==true)=true) from B0) (ci (show(false=true→(false==true)=true) from B0) (ci (show((false==true)=true→(false==true)=true) from B0) (ci (show((false==true)=true→(Spec Try.prog 19 [.any] [] O2 [])) from B0) (ci (show((false==true)=true→(false==true)=true) from B0) (ci (show((false==true)=true→(false==true)=true) from B0) (ci (show((false==true)=true→(false==true)=true) from B0) (ci (show(false=true→(false==true)=true) from B0) (ci (show((false==true)=true→(false==true)=true) from B0) (ci (show((false==true)=true→(Spec Try.prog 21 [.any] [] Lr [])) from B0) (ci (show((false==true)=true→(false==true)=true) from B0) (ci (show((false==true)=true→(false==true)=true) from B0) (c1 (show(false=true→(false==true)=true) from B0)))))))))))))))))))))))))) ?_;obtain rfl:=OI h;exact Ha []
      ·refine gR hq [6] [] [(86,(.bool false))] [(Z3 x10.1 (Kz x10)),Z7,Z7,⟨[],[],O2,[],[]⟩,⟨[],[],Lr,[],[]⟩] (ci (Af (0:Int) (C9 a1) x8.2.2 x8.2.1 x10 hx10) (ci (show(AVle (P5 x10 a1) (.bool false)) from(Bk hs12)) (ci (show((false==true)=true→(false==true)=true) from B0) (ci (show((false==true)=true→(false==true)=true) from B0) (ci (show((false==true)=true→(false==true)=true) from B0) (ci (show((false==true)=true→(Spec Try.prog 16 [.any,(.int .u64 (0:Int)),(.int .i64 (Eb ((C9 a1)+1)))] [] (.bool false) [])) from B0) (ci (show((false==true)=true→(false==true)=true) from B0) (ci (show(false=true→(false==true)=true) from B0) (ci (show((false==true)=true→(false==true)=true) from B0) (ci (show((false==true)=true→(false==true)=true) from B0) (ci (show((false==true)=true→(Spec Try.prog 16 [.any,(.int .u64 a4),Se] [] (.bool false) [])) from B0) (ci (show((false==true)=true→(false==true)=true) from B0) (ci (show(false=true→(false==true)=true) from B0) (ci (show((false==true)=true→(false==true)=true) from B0) (ci (show((false==true)=true→(Spec Try.prog 19 [.any] [] O2 [])) from B0) (ci (show((false==true)=true→(false==true)=true) from B0) (ci (show((false==true)=true→(false==true)=true) from B0) (ci (show((false==true)=true→(false==true)=true) from B0) (ci (show(false=true→(false==true)=true) from B0) (ci (show((false==true)=true→(false==true)=true) from B0) (ci (show((false==true)=true→(Spec Try.prog 21 [.any] [] Lr [])) from B0) (ci (show((false==true)=true→(false==true)=true) from B0) (ci (show((false==true)=true→(false==true)=true) from B0) (c1 (show(false=true→(false==true)=true) from B0))))))))))))))))))))))))) ?_;obtain rfl:=OI h;exact Ha []
  ·refine gR hq [1,7,8,9,10,11] [] [] [⟨[],[],(.tuple [(bif false then((.ptr 20000 0):AV) else .nilp),(Ia x3.2)]),(bif false then(Lp x3) else[]),[25]⟩] (ci hc2 (ci (show(Spec Try.prog 10 [(.slice 1 ((C9 a1).toNat) Sb .none)] [] (.tuple [(bif false then((.ptr 20000 0):AV) else .nilp),(Ia x3.2)]) (bif false then(Lp x3) else[])) from(Vh (fun b_:Bool=>Spec Try.prog 10 [(.slice 1 ((C9 a1).toNat) Sb .none)] [] (.tuple [(bif b_ then((.ptr 20000 0):AV) else .nilp),(Ia x3.2)]) (bif b_ then(Lp x3) else[])) hs4 (Spec.args (.cons (Ou (e:=Cn) (d:=(0:Int)) (l:=(Sd a1)) (List.length_replicate ..).symm (Oi (e:=Cn) (d:=(0:Int)) rfl) (fun _=>rfl)) .nil) (Eo (Sd a1) x3 hx3)))) (ci (show(Gw (bif false then(Lp x3) else[])) from trivial) (c1 (Eq.refl ((C9 a1).toNat)))))) ?_;refine gR hq [1,7,8,9,10,34] [] [] [] (ci (show((true==false)=true→(true==false)=true) from B0) (c1 (show(true=false→(true==false)=true) from V9))) ?_;refine Uk true ?_;refine Ct hq [6] [] ?_;obtain rfl:=OI h;exact Ha []
theorem Es{n:Int}(h:-9223372036854775808≤n)(h':n<9223372036854775808):Eb n=n:=by
 show IntKind.i64.wrap n=n
 simp only[IntKind.wrap,IntKind.bits,IntKind.signed]
 simp
 split<;>omega
theorem Cs{n:Int}(h:0≤n)(h':n<18446744073709551616):Et n=n:=by
 show IntKind.u64.wrap n=n
 simp[IntKind.wrap,IntKind.bits,IntKind.signed];omega
theorem Td(n:Int):Tc n=n % 256:=by
 show IntKind.u8.wrap n=_
 simp[IntKind.wrap,IntKind.bits,IntKind.signed]
theorem Ko(w n:Nat)(h:n<2 ^ w):(BitVec.ofInt w (n:Int)).toNat=n:=by
 rw[BitVec.toNat_ofInt,← Int.natCast_emod,Int.toNat_natCast,Nat.mod_eq_of_lt h]
theorem Mx(k:IntKind)(hk:k.signed=false){n:Nat}(h:n<2 ^ k.bits):k.wrap (n:Int)=n:=by
 simp only[IntKind.wrap,hk,Bool.false_and,Bool.false_eq_true,if_false]
 have:((2:Int) ^ k.bits)=((2 ^ k.bits:Nat):Int):=by simp
 rw[this,← Int.natCast_emod,Nat.mod_eq_of_lt h]
theorem Sj(k:IntKind)(hk:k.signed=false){a b:Nat}(ha:a<2 ^ k.bits)(hb:b<2 ^ k.bits):Ew .or k a b=((a ||| b:Nat):Int):=by
 simp only[Ew,BitVec.toNat_or,Ko _ _ ha,Ko _ _ hb];exact Mx k hk (Nat.or_lt_two_pow ha hb)
theorem T9(k:IntKind)(hk:k.signed=false)(j:Nat){a b:Nat}(ha:a<2 ^ j)(hb:a+b*2 ^ j<2 ^ k.bits){y:Int}(hy:y=((b*2 ^ j:Nat):Int)):Ew .or k a y=((a+b*2 ^ j:Nat):Int):=by
 subst hy;rw[Sj k hk (by omega) (by omega),Nat.or_comm,Nat.mul_comm b,← Nat.two_pow_add_eq_or_of_lt ha,Nat.add_comm]
theorem Q1{x:Int}(j:Nat):x.fdiv (2 ^ j)=x / 2 ^ j:=by rw[Int.fdiv_eq_ediv_of_nonneg _ (by exact Int.le_of_lt (Int.pow_pos (by decide)))]
theorem D3{α:Type}(l:List α)(i:Nat)(d:α)(h:i<l.length):l.getD i d=l[i]:=by simp[List.getD,h]
theorem Ra{α:Type}{l:List α}{i:Nat}{d:α}(h:i<l.length):l.getD i d∈l:=by rw[D3 _ _ _ h];exact List.getElem_mem h
theorem Sq{i n:Nat}(h:i<n):Gc (i:Int) n:=⟨by omega,by exact_mod_cast h⟩
theorem Cf(i:Nat):((i:Int)).toNat=i:=Int.toNat_natCast i
theorem w1{i:Nat}(h:i<4611686018427387904):Eb ((i:Int)+1)=((i+1:Nat):Int):=by rw[Es (by omega) (by omega)];omega
theorem Kf{i n:Nat}(h:i<n):decide (((i:Nat):Int)<((n:Nat):Int))=true:=by simpa using h
theorem Od{n:Nat}:decide (((n:Nat):Int)<((n:Nat):Int))=false:=by simp
theorem U3{i n:Nat}(h:i<n):Gc ((i:Nat):Int) n:=Sq h
def Ns(B:List Int):Prop:=∀ x∈B,0≤x∧x<256
def Nh:Nat→Int→List Int
 | 0,_=>[]
 | s+1,v=>v % 256::Nh s (v / 256)
def Sz:List Int→Int
 | []=>0
 | b::l=>b+256*Sz l
def N1(w:Bool):Nat→List Int→List Aa
 | _,[]=>[]
 | a,b::l=>⟨w,(a:Int),b⟩::N1 w (a+1) l
def Jh:List Int→Nat→List Int→List Int
 | B,_,[]=>B
 | B,a,b::l=>Jh (B.set a b) (a+1) l
def Fk(B:List Int)(a s:Nat):List Int:=(B.drop a).take s
theorem Sk(s:Nat)(v:Int):(Nh s v).length=s:=by induction s generalizing v with|zero=>rfl|succ s ih=>simp[Nh,ih]
theorem Ot(w:Bool)(a:Nat)(l:List Int):(N1 w a l).length=l.length:=by induction l generalizing a with|nil=>rfl|cons b l ih=>simp[N1,ih]
theorem Mq(B:List Int)(a:Nat)(l:List Int):(Jh B a l).length=B.length:=by induction l generalizing B a with|nil=>rfl|cons b l ih=>simp[Jh,ih]
theorem R3{B:List Int}{a s:Nat}(h:a+s≤B.length):(Fk B a s).length=s:=by simp[Fk];omega
theorem Pv(B:List Int)(a:Nat):Fk B a 0=[]:=by simp[Fk]
theorem Pu{B:List Int}{a s:Nat}(h:a<B.length):Fk B a (s+1)=B.getD a 0::Fk B (a+1) s:=by
 unfold Fk;rw[List.drop_eq_getElem_cons h,List.take_succ_cons,D3 _ _ _ h]
theorem Sn{B:List Int}(hB:Ns B)(i:Nat):0≤B.getD i 0∧B.getD i 0<256:=by
 by_cases h:i<B.length
 ·exact hB _ (Ra h)
 ·simp[List.getD,h]
theorem Ru(n:Nat):(0:Int)<256 ^ n:=Int.pow_pos (by decide)
def M1(N:Nat)(a n:Int):Bool:=decide (1≤n)&&decide (a+n≤N)
theorem El{B:List Int}{T:List Aa}{a n:Int}(ha:0≤a)(hB:B.length<4611686018427387904):A9 a n B T=some (M1 B.length a n,T,B):=by
 unfold A9 M1;rw[cond_false]
 by_cases h1:n<1
 ·rw[show decide (n<(1:Int))=true from decide_eq_true (by omega),cond_true,cond_true];rw[show decide (1≤n)=false from decide_eq_false (by omega),Bool.false_and]
 ·rw[show decide (n<(1:Int))=false from decide_eq_false (by omega),cond_false,show decide (1≤n)=true from decide_eq_true (by omega),Bool.true_and]
  by_cases h2:(B.length:Int)<n
  ·rw[show decide ((B.length:Int)<n)=true from decide_eq_true (by omega),cond_true];rw[show decide (a+n≤(B.length:Int))=false from decide_eq_false (by omega)]
  ·rw[show decide ((B.length:Int)<n)=false from decide_eq_false (by omega),cond_false];rw[Es (by omega) (by omega),Cs (by omega) (by omega)];rw[show decide (a≤(B.length:Int)-n)=decide (a+n≤(B.length:Int)) from decide_eq_decide.2 (by omega)]
theorem Ua{v b:Int}{i:Nat}(h0:0≤v)(h1:v<256 ^ i)(hb:0≤b)(hb':b<256)(hi:i<8):Ew .or .u64 v (Pt .u64 (Et b) (Eb (8*(i:Int))))=v+256 ^ i*b:=by
 have e1:(256:Int) ^ i=((2 ^ (8*i):Nat):Int):=by rw[Nat.pow_mul];exact(Int.natCast_pow 256 i).symm
 obtain⟨V,rfl⟩:∃ V:Nat,v=V:=⟨v.toNat,by omega⟩;obtain⟨C,rfl⟩:∃ C:Nat,b=C:=⟨b.toNat,by omega⟩;rw[e1]at h1 ⊢;have h1:V<2 ^ (8*i):=Int.ofNat_lt.1 h1;have hC:C<256:=Int.ofNat_lt.1 hb'
 have hp:2 ^ (8*i)*256≤2 ^ 64:=by
  have:2 ^ (8*i)*2 ^ 8=2 ^ (8*i+8):=by rw[Nat.pow_add]
  have h2:(2:Nat) ^ (8*i+8)≤2 ^ 64:=Nat.pow_le_pow_right (by decide) (by omega);omega
 have hlt:V+C*2 ^ (8*i)<2 ^ 64:=by
  have:C*2 ^ (8*i)≤255*2 ^ (8*i):=Nat.mul_le_mul_right _ (by omega);omega
 rw[Es (by omega) (by omega),Cs (by omega) (by omega)]
 have e2:Pt .u64 (C:Int) (8*(i:Int))=((C*2 ^ (8*i):Nat):Int):=by
  unfold Pt
  have:(8*(i:Int)).toNat=8*i:=by omega
  rw[this,show min (8*i) IntKind.u64.bits=8*i by simp[IntKind.bits];omega]
  have e3:(C:Int)*2 ^ (8*i)=((C*2 ^ (8*i):Nat):Int):=by rw[Int.natCast_mul,Int.natCast_pow];rfl
  rw[e3];exact Mx .u64 rfl (by simp[IntKind.bits];omega)
 rw[T9 .u64 rfl (8*i) h1 (by simpa [IntKind.bits] using hlt) e2];rw[Int.natCast_add,Int.natCast_mul,Int.mul_comm]
theorem Oo{B:List Int}(hB:Ns B)(hL:B.length<4611686018427387904){s:Nat}(hs:s≤8):∀(k i cur:Nat) (v:Int) (t:List Aa),i+k=s→cur+k≤B.length→0≤v→v<256 ^ i→t.length+k≤room→
  Dc (A6 (s:Int) B) ((cur:Int),v,(i:Int),t)=some (v+256 ^ i*Sz (Fk B cur k),t++N1 false cur (Fk B cur k))
 | 0,i,cur,v,t,hi,hc,h0,h1,hr=>by
  obtain rfl:i=s:=by omega
  refine Cb ?_;unfold A6;simp only;rw[Od,cond_false,Pv];simp[Sz,N1]
 | k+1,i,cur,v,t,hi,hc,h0,h1,hr=>by
  obtain⟨b0,b1⟩:=Sn hB cur
  have step:A6 (s:Int) B ((cur:Int),v,(i:Int),t)=some (.next (((cur+1:Nat):Int),v+256 ^ i*B.getD cur 0,((i+1:Nat):Int),t++[⟨false,(cur:Int),B.getD cur 0⟩])):=by
   unfold A6;simp only;rw[Kf (by omega),cond_true,Ar (U3 (by omega)),Ar (by simp;omega),Ar (by rw[Es (by omega) (by omega)];omega),Cf,Ua h0 h1 b0 b1 (by omega),w1 (by omega),Cs (by omega) (by omega)]
   rfl
  rw[Ek step,Oo hB hL hs k (i+1) (cur+1) _ _ (by omega) (by omega) (by have:=Int.mul_nonneg (Int.le_of_lt (Ru i)) b0;omega) (by
   rw[Int.pow_succ];have:256 ^ i*B.getD cur 0≤256 ^ i*255:=Int.mul_le_mul_of_nonneg_left (by omega) (Int.le_of_lt (Ru i))
   omega) (by simp;omega),Pu (by omega)]
  simp only[Sz,N1,Int.pow_succ,List.append_assoc,List.singleton_append];rw[Int.mul_add,Int.add_assoc,Int.mul_assoc]
theorem Pj{B:List Int}{T:List Aa}(hB:Ns B)(hL:B.length<4611686018427387904){s cur:Nat}(hs:s≤8)(hc:cur+s≤B.length)(hr:T.length+s≤room) :
  Bs (cur:Int) (s:Int) B T=some (Sz (Fk B cur s),T++N1 false cur (Fk B cur s),B):=by
 unfold Bs;have:=Oo hB hL hs s 0 cur 0 T (by omega) hc (by decide) (by decide) hr;rw[show((0:Nat):Int)=0 from rfl]at this;rw[this]
 simp
theorem Vx{v:Int}:R0 .u64 v (8:Int)=v / 256:=by
 unfold R0
 have:min (8:Int).toNat IntKind.u64.bits=8:=by decide
 rw[this,Q1]
 rfl
theorem Ow{s:Nat}(hs:s≤8):∀(k i cur:Nat) (v:Int) (t:List Aa) (B:List Int),i+k=s→cur+k≤B.length→B.length<4611686018427387904→t.length+k≤room→
  Dc (A2 (s:Int)) ((cur:Int),v,(i:Int),t,B)=some (t++N1 true cur (Nh k v),Jh B cur (Nh k v))
 | 0,i,cur,v,t,B,hi,hc,hL,hr=>by
  obtain rfl:i=s:=by omega
  refine Cb ?_;unfold A2;simp only;rw[Od,cond_false];simp[Nh,N1,Jh]
 | k+1,i,cur,v,t,B,hi,hc,hL,hr=>by
  have step:A2 (s:Int) ((cur:Int),v,(i:Int),t,B)=some (.next (((cur+1:Nat):Int),v / 256,((i+1:Nat):Int),t++[⟨true,(cur:Int),v % 256⟩],B.set cur (v % 256))):=by
   unfold A2;simp only;rw[Kf (by omega),cond_true,Ar (U3 (by omega)),Ar (by simp;omega),Cf,Vx,Td,w1 (by omega),Cs (by omega) (by omega)]
   rfl
  rw[Ek step,Ow hs k (i+1) (cur+1) _ _ _ (by omega) (by simp;omega) (by simpa using hL) (by simp;omega)];simp[Nh,N1,Jh]
theorem Nq{B:List Int}{T:List Aa}{v:Int}(hL:B.length<4611686018427387904){s cur:Nat}(hs:s≤8)(hc:cur+s≤B.length)(hr:T.length+s≤room) :
  Bo (cur:Int) (s:Int) v B T=some (T++N1 true cur (Nh s v),Jh B cur (Nh s v)):=by
 unfold Bo;have:=Ow hs s 0 cur v T B (by omega) hc hL hr;rw[show((0:Nat):Int)=0 from rfl]at this;rw[this]
 rfl
def M0(B:List Int)(s:Nat):Nat→Nat→List Int×Bool×List Aa
 | 0,_=>([],true,[])
 | n+1,cur=>if cur+s≤B.length then(Sz (Fk B cur s)::(M0 B s n (cur+s)).1,(M0 B s n (cur+s)).2.1,N1 false cur (Fk B cur s)++(M0 B s n (cur+s)).2.2) else([],false,[])
def My(s:Nat):List Int→Nat→List Int→Bool×List Aa×List Int
 | [],_,B=>(true,[],B)
 | v::l,cur,B=>if cur+s≤B.length then((My s l (cur+s) (Jh B cur (Nh s v))).1,N1 true cur (Nh s v)++(My s l (cur+s) (Jh B cur (Nh s v))).2.1,(My s l (cur+s) (Jh B cur (Nh s v))).2.2) else(false,[],B)
def P1(bits:Int):Bool:=bits==8 || bits==16 || bits==32 || bits==64
def K9(bits n:Int):Bool:=P1 bits&&decide (0≤n)&&decide (n≤16)
theorem wdB_cases{bits:Int}(h:P1 bits=true):bits=8∨bits=16∨bits=32∨bits=64:=by
 simp only[P1,Bool.or_eq_true,beq_iff_eq]at h;omega
theorem Km(bits:Int):B7 bits=some (bif P1 bits then bits / 8 else 0):=by
 by_cases h:P1 bits=true
 ·rw[h,cond_true];rcases wdB_cases h with rfl|rfl|rfl|rfl<;>decide
 ·have h':P1 bits=false:=by simpa using h
  rw[h',cond_false];simp only[P1,Bool.or_eq_false_iff]at h';obtain⟨⟨⟨h1,h2⟩,h3⟩,h4⟩:=h';unfold B7;rw[h1,cond_false,h2,cond_false,h3,cond_false,h4]
  rfl
theorem Ub{bits:Int}(h:P1 bits=true):∃ s:Nat,bits / 8=(s:Int)∧1≤s∧s≤8∧bits=8*(s:Int)∧Eb (Int.tdiv bits 8)=(s:Int):=by
 rcases wdB_cases h with rfl|rfl|rfl|rfl
 ·exact⟨1,by decide,by decide,by decide,by decide,by decide⟩
 ·exact⟨2,by decide,by decide,by decide,by decide,by decide⟩
 ·exact⟨4,by decide,by decide,by decide,by decide,by decide⟩
 ·exact⟨8,by decide,by decide,by decide,by decide,by decide⟩
theorem Ik{N s cur:Nat}(hs:1≤s):M1 N (cur:Int) (s:Int)=decide (cur+s≤N):=by
 unfold M1;rw[show decide (1≤(s:Int))=true from decide_eq_true (by omega),Bool.true_and];exact decide_eq_decide.2 (by omega)
theorem Rw{B:List Int}(hB:Ns B)(hL:B.length<4611686018427387904){s:Nat}(hs:s≤8)(hs1:1≤s){N:Nat}(hN:N≤16):∀(k i cur:Nat) (done:List Int) (t:List Aa),i+k=N→done.length=i→t.length+k*8≤room→
  Dc (A7 (N:Int) (s:Int)) ((cur:Int),(i:Int),done++List.replicate k 0,t,B) =
   some (if(M0 B s k cur).2.1=true then .inl (done++(M0 B s k cur).1,t++(M0 B s k cur).2.2,B) else .inr (t++(M0 B s k cur).2.2,B))
 | 0,i,cur,done,t,hi,hd,hr=>by
  obtain rfl:i=N:=by omega
  refine Cb ?_;unfold A7;simp only;rw[List.length_replicate,Cf,Od,cond_false];simp[M0]
 | k+1,i,cur,done,t,hi,hd,hr=>by
  by_cases hc:cur+s≤B.length
  ·have step:A7 (N:Int) (s:Int) ((cur:Int),(i:Int),done++List.replicate (k+1) 0,t,B)=some (.next (((cur+s:Nat):Int),((i+1:Nat):Int),(done++[Sz (Fk B cur s)])++List.replicate k 0,t++N1 false cur (Fk B cur s),B)):=by
    unfold A7;simp only;rw[List.length_replicate,Cf,Kf (by omega),cond_true,El (by omega) hL,Option.bind_some,Ar rfl,Ik hs1];simp only;rw[show decide (cur+s≤B.length)=true from decide_eq_true (by omega),Bool.not_true,cond_false,Pj hB hL hs hc (by omega),Option.bind_some,Ar rfl,Ar (U3 (by simp;omega)),w1 (by omega),Cs (n:=(s:Int)) (by omega) (by omega),Cs (by omega) (by omega),Cf]
    have e:(done++List.replicate (k+1) (0:Int)).set i (Sz (Fk B cur s))=(done++[Sz (Fk B cur s)])++List.replicate k 0:=by
     rw[List.replicate_succ,List.set_append_right _ _ (by omega),hd,Nat.sub_self,List.set_cons_zero,List.append_assoc];rfl
    rw[e]
    simp
   rw[Ek step,Rw hB hL hs hs1 hN k (i+1) (cur+s) _ _ (by omega) (by simp[hd]) (by simp[Ot,R3 hc];omega)];rw[M0,if_pos hc];simp only[List.append_assoc,List.singleton_append]
  ·rw[M0,if_neg hc];refine Cb ?_;unfold A7;simp only;rw[List.length_replicate,Cf,Kf (by omega),cond_true,El (by omega) hL,Option.bind_some,Ar rfl,Ik hs1];simp only;rw[show decide (cur+s≤B.length)=false from decide_eq_false (by omega),Bool.not_false,cond_true]
   simp
def RD(a bits n:Int)(B:List Int)(T:List Aa):List Int×Int×List Aa×List Int:=
 if K9 bits n=true then(if(M0 B (bits / 8).toNat n.toNat a.toNat).2.1=true then((M0 B (bits / 8).toNat n.toNat a.toNat).1,0,T++(M0 B (bits / 8).toNat n.toNat a.toNat).2.2,B) else([],8,T++(M0 B (bits / 8).toNat n.toNat a.toNat).2.2,B)) else([],1,T,B)
theorem Oj{bits n:Int}:(bif bif (bif P1 bits then bits / 8 else 0)==0 then true else decide (n<0) then true else decide (16<n)) = !K9 bits n:=by
 unfold K9
 cases h:P1 bits with
 | false=>rfl
 | true=>
  obtain⟨s,h1,h2,h3,_⟩:=Ub h;rw[cond_true,h1,show((s:Int)==0)=false by simp;omega,cond_false,Bool.true_and]
  by_cases h4:n<0
  ·rw[decide_eq_true h4,cond_true,decide_eq_false (show ¬ (0≤n) by omega)];rfl
  ·rw[decide_eq_false h4,cond_false,decide_eq_true (show 0≤n by omega),Bool.true_and]
   by_cases h5:16<n
   ·rw[decide_eq_true h5,decide_eq_false (show ¬ n≤16 by omega)];rfl
   ·rw[decide_eq_false h5,decide_eq_true (show n≤16 by omega)];rfl
theorem Rh{a bits n:Int}{B:List Int}{T:List Aa}(ha:0≤a)(hB:Ns B)(hL:B.length<4611686018427387904)(hr:T.length+128≤room):Bv a bits n B T=some (RD a bits n B T):=by
 unfold Bv RD;rw[Km,Option.bind_some,Oj]
 cases hm:K9 bits n with
 | false=>simp[D5]
 | true=>
  simp only[K9,Bool.and_eq_true,decide_eq_true_iff]at hm;obtain⟨⟨hw,h0⟩,h1⟩:=hm;obtain⟨s,h2,h3,h4,h5,h6⟩:=Ub hw;obtain⟨N,rfl⟩:∃ N:Nat,n=N:=⟨n.toNat,by omega⟩;obtain⟨A,rfl⟩:∃ A:Nat,a=A:=⟨a.toNat,by omega⟩;rw[Bool.not_true,cond_false,hw,cond_true,h2,Ar ⟨h0,Int.le_refl _,by have:room=1099511627776:=rfl;omega⟩,Cf,Cf,Cf];have:=Rw hB hL h4 h3 (N:=N) (by omega) N 0 A [] T (by omega) rfl (by omega);rw[List.nil_append,show((0:Nat):Int)=0 from rfl]at this;rw[this]
  by_cases hk:(M0 B s N A).2.1=true
  ·rw[if_pos hk,if_pos hk];rfl
  ·rw[if_neg hk,if_neg hk,Option.bind_some]
   show(D5 (some (.next _)) _).bind _=_
   unfold D5;rw[Option.bind_some];simp only;rw[Cb (x:=(([]:List Int),(8:Int),T++(M0 B s N A).2.2,B)) rfl]
   rfl
theorem R5{s:Nat}(hs:s≤8)(hs1:1≤s){L:List Int}(hN:L.length≤16):∀(k i cur:Nat) (t:List Aa) (B:List Int),i+k=L.length→B.length<4611686018427387904→t.length+k*8≤room→
  Dc (A5 L (s:Int)) ((cur:Int),(i:Int),t,B) =
   some (if(My s (L.drop i) cur B).1=true then .inl (t++(My s (L.drop i) cur B).2.1,(My s (L.drop i) cur B).2.2) else .inr (t++(My s (L.drop i) cur B).2.1,(My s (L.drop i) cur B).2.2))
 | 0,i,cur,t,B,hi,hL,hr=>by
  obtain rfl:i=L.length:=by omega
  refine Cb ?_;unfold A5;simp only;rw[Od,cond_false,List.drop_length];simp[My]
 | k+1,i,cur,t,B,hi,hL,hr=>by
  have hd:L.drop i=L.getD i 0::L.drop (i+1):=by rw[List.drop_eq_getElem_cons (by omega),D3 _ _ _ (by omega)]
  by_cases hc:cur+s≤B.length
  ·have step:A5 L (s:Int) ((cur:Int),(i:Int),t,B)=some (.next (((cur+s:Nat):Int),((i+1:Nat):Int),t++N1 true cur (Nh s (L.getD i 0)),Jh B cur (Nh s (L.getD i 0)))):=by
    unfold A5;simp only;rw[Kf (by omega),cond_true,Ar (U3 (by omega)),El (by omega) hL,Option.bind_some,Ar rfl,Ik hs1];simp only;rw[show decide (cur+s≤B.length)=true from decide_eq_true (by omega),Bool.not_true,cond_false,Cf,Nq hL hs hc (by omega),Option.bind_some,Ar (by rw[Mq]),w1 (by omega),Cs (n:=(s:Int)) (by omega) (by omega),Cs (by omega) (by omega)]
    simp
   rw[Ek step,R5 hs hs1 hN k (i+1) (cur+s) _ _ (by omega) (by rw[Mq];exact hL) (by simp[Ot,Sk];omega)];rw[hd,My,if_pos hc];simp only[List.append_assoc]
  ·rw[hd,My,if_neg hc];refine Cb ?_;unfold A5;simp only;rw[Kf (by omega),cond_true,Ar (U3 (by omega)),El (by omega) hL,Option.bind_some,Ar rfl,Ik hs1];simp only;rw[show decide (cur+s≤B.length)=false from decide_eq_false (by omega),Bool.not_false,cond_true]
   simp
def WR(a bits:Int)(L:List Int)(B:List Int)(T:List Aa):Int×List Aa×List Int:=
 if K9 bits L.length=true then(if(My (bits / 8).toNat L a.toNat B).1=true then 0 else 8,T++(My (bits / 8).toNat L a.toNat B).2.1,(My (bits / 8).toNat L a.toNat B).2.2) else(1,T,B)
theorem Rk{bits:Int}{n:Nat}:(bif (bif P1 bits then bits / 8 else 0)==0 then true else decide (16<(n:Int))) = !K9 bits n:=by
 rw[← Oj,show decide ((n:Int)<0)=false from decide_eq_false (by omega)]
 cases(bif P1 bits then bits / 8 else 0)==0<;>rfl
theorem Sw{a bits:Int}{L B:List Int}{T:List Aa}(ha:0≤a)(hL:B.length<4611686018427387904)(hr:T.length+128≤room):B4 a bits L B T=some (WR a bits L B T):=by
 unfold B4 WR;rw[Km,Option.bind_some,Rk]
 cases hm:K9 bits L.length with
 | false=>simp[D5]
 | true=>
  simp only[K9,Bool.and_eq_true,decide_eq_true_iff]at hm;obtain⟨⟨hw,h0⟩,h1⟩:=hm;obtain⟨s,h2,h3,h4,h5,h6⟩:=Ub hw;obtain⟨A,rfl⟩:∃ A:Nat,a=A:=⟨a.toNat,by omega⟩;rw[Bool.not_true,cond_false,hw,cond_true,h2,Cf,Cf];have:=R5 h4 h3 (L:=L) (by omega) L.length 0 A T B (by omega) hL (by omega);rw[List.drop_zero,show((0:Nat):Int)=0 from rfl]at this;rw[this]
  by_cases hk:(My s L A B).1=true
  ·rw[if_pos hk,if_pos rfl,if_pos hk];rfl
  ·rw[if_neg hk,if_pos rfl,if_neg hk,Option.bind_some]
   show(D5 (some (.next _)) _).bind _=_
   unfold D5;rw[Option.bind_some];simp only;rw[Cb (x:=((8:Int),T++(My s L A B).2.1,(My s L A B).2.2)) rfl]
   rfl
theorem Lm:room=1099511627776:=rfl
theorem Mh{b:List Int}(h:b.length≤4096):Dj b=some ((true,⟨b,[]⟩),0):=by
 unfold Dj Ai;rw[decide_eq_false (by omega),cond_false,Ar (by rw[Lm];omega)]
 rfl
theorem Su{B:List Int}{T:List Aa}(h:B.length≤room):B2 B T=some (B,T,B):=by
 unfold B2 Ai;rw[Ar h];rfl
theorem Rg{B:List Int}{T:List Aa}(h:B.length≤room):Bm B T=some (B,T,B):=by
 unfold Bm Ai;rw[Ar h];rfl
theorem Sv{B:List Int}{T:List Aa}(h:T.length≤room):B3 B T=some (T,T,B):=by
 unfold B3 Ak;rw[Ar (by simpa using h)];rfl
theorem Ri{B:List Int}{T:List Aa}(h:T.length≤room):Bn B T=some (T,T,B):=by
 unfold Bn Ak;rw[Ar (by simpa using h)];rfl
theorem Fa{B:List Int}{T:List Aa}{a n:Int}(ha:0≤a)(hB:B.length<4611686018427387904):Ay a n B T=some (M1 B.length a n,T,B):=by
 rw[← El ha hB];rfl
theorem P8:WR 2 16 [258] [9,9,9,9] []=(0,[⟨true,2,2⟩,⟨true,3,1⟩],[9,9,2,1]):=by decide
theorem O3:RD 0 32 1 [9,9,2,1] [⟨true,2,2⟩,⟨true,3,1⟩]=([16910601],0,[⟨true,2,2⟩,⟨true,3,1⟩,⟨false,0,9⟩,⟨false,1,9⟩,⟨false,2,2⟩,⟨false,3,1⟩],[9,9,2,1]):=by decide
theorem O4:RD 1 32 1 [9,9,2,1] [⟨true,2,2⟩,⟨true,3,1⟩,⟨false,0,9⟩,⟨false,1,9⟩,⟨false,2,2⟩,⟨false,3,1⟩]=([],8,[⟨true,2,2⟩,⟨true,3,1⟩,⟨false,0,9⟩,⟨false,1,9⟩,⟨false,2,2⟩,⟨false,3,1⟩],[9,9,2,1]):=by decide
theorem Kp:Ns [9,9,2,1]:=by unfold Ns;decide
theorem Pi:m_locksteplaw12_awake=some true:=by
 unfold m_locksteplaw12_awake;rw[Mh (by decide),Option.bind_some]
 dsimp only
 rw[cond_true,show((0:Int)!=0)=false by decide,cond_false,Sw (by decide) (by decide) (by decide),P8,Option.bind_some]
 dsimp only
 rw[Ar (by decide),Rh (by decide) Kp (by decide) (by decide),O3,Option.bind_some]
 dsimp only
 rw[Ar (by decide),Rh (by decide) Kp (by decide) (by decide),O4,Option.bind_some]
 dsimp only
 rw[Ar (by decide),Su (by decide),Option.bind_some]
 dsimp only
 rw[Ar (by decide),Ar (by decide),Ar (by decide),Ar (by decide)];rw[Sv (by decide),Option.bind_some]
 dsimp only
 rw[Ar (by decide),El (by decide) (by decide),Option.bind_some]
 dsimp only
 rw[Ar (by decide),El (by decide) (by decide),Option.bind_some]
 dsimp only
 rw[Ar (by decide)]
 rfl
theorem there12(n a:Int)(p:Int×Int)(hn:0≤n∧n<65536)(ha:0≤a∧a<18446744073709551616)(h1:0≤p.1∧p.1<256)(h2:0≤p.2∧p.2<256):Bd n a p=some true:=by
 unfold Bd;rw[Pi,Option.bind_some,Bool.not_true,cond_false,Es (n:=n) (by omega) (by omega),Es (n:=p.1) (by omega) (by omega),Es (n:=p.2) (by omega) (by omega),Es (n:=p.1+p.2) (by omega) (by omega),Int.tmod_eq_emod_of_nonneg hn.1];obtain⟨k,hk,hk'⟩:∃ k:Nat,n % 4097=k∧k≤4096:=⟨(n % 4097).toNat,by omega,by omega⟩;rw[hk,Ar ⟨by omega,by omega,by rw[Lm];omega⟩,Cf,Cs (n:=(k:Int)) (by omega) (by omega),Es (n:=(k:Int)+1) (by omega) (by omega)];have hl:(List.replicate k (0:Int)).length=k:=List.length_replicate;rw[Mh (by rw[hl];exact hk'),Option.bind_some]
 dsimp only
 generalize hB:List.replicate k (0:Int)=B at hl
 rw[cond_true,Ar (show([]:List Aa).length=0 from rfl),show((0:Int)!=0)=false by decide,cond_false];rw[Fa ha.1 (by omega),Option.bind_some,Ar rfl]
 dsimp only
 rw[Fa ha.1 (by omega),Option.bind_some,Ar rfl]
 dsimp only
 have c1:(bif bif bif M1 B.length a (p.1+p.2) then !M1 B.length a p.1 else false then decide (0<p.1) else false then true else bif p.1==0 then M1 B.length a p.1 else false)=false:=by
  unfold M1
  by_cases e1:a+(p.1+p.2)≤(B.length:Int)
  ·rw[decide_eq_true e1,decide_eq_true (show a+p.1≤(B.length:Int) by omega)]
   by_cases e2:1≤p.1
   ·rw[decide_eq_true e2,decide_eq_true (show 1≤p.1+p.2 by omega),show(p.1==0)=false by simp;omega];rfl
   ·rw[decide_eq_false e2,decide_eq_false (show ¬ 0<p.1 by omega)]
    cases decide (1≤p.1+p.2)<;>cases(p.1==0)<;>rfl
  ·rw[decide_eq_false e1]
   by_cases e2:1≤p.1
   ·rw[show(p.1==0)=false by simp;omega]
    cases decide (1≤p.1+p.2)<;>rfl
   ·rw[decide_eq_false e2,decide_eq_false (show ¬ 0<p.1 by omega)]
    cases decide (1≤p.1+p.2)<;>cases(p.1==0)<;>rfl
 rw[c1,cond_false]
 have c2:(bif M1 B.length a p.1 then bif decide ((k:Int)≤a) then true else decide ((k:Int)<Et (a+Et p.1)) else false)=false:=by
  unfold M1
  by_cases e1:1≤p.1∧a+p.1≤(B.length:Int)
  ·rw[decide_eq_true e1.1,decide_eq_true e1.2,Cs (n:=p.1) (by omega) (by omega),Cs (by omega) (by omega),decide_eq_false (show ¬ (k:Int)≤a by omega),decide_eq_false (show ¬ (k:Int)<a+p.1 by omega)];rfl
  ·have:(decide (1≤p.1)&&decide (a+p.1≤(B.length:Int)))=false:=by
    rw[Bool.and_eq_false_iff,decide_eq_false_iff_not,decide_eq_false_iff_not];omega
   rw[this,cond_false]
 rw[c2,cond_false,Fa (by omega) (by omega),Option.bind_some,Ar rfl]
 dsimp only
 have c3:(M1 B.length 0 (k:Int)==decide (0<(k:Int)))=true:=by
  unfold M1;rw[decide_eq_true (show(0:Int)+k≤B.length by omega),Bool.and_true]
  by_cases e:(0:Int)<k
  ·rw[decide_eq_true e,decide_eq_true (show(1:Int)≤k by omega)];rfl
  ·rw[decide_eq_false e,decide_eq_false (show ¬ (1:Int)≤k by omega)];rfl
 rw[c3,cond_true,Fa (by omega) (by omega),Option.bind_some,Ar rfl]
 dsimp only
 have c4:M1 B.length 0 ((k:Int)+1)=false:=by
  unfold M1;rw[decide_eq_false (show ¬ (0:Int)+(k+1)≤B.length by omega),Bool.and_false]
 rw[c4,Bool.not_false,cond_true,Fa ha.1 (by omega),Option.bind_some,Ar rfl]
 dsimp only
 have c5:M1 B.length a 0=false:=rfl;rw[c5,Bool.not_false,cond_true,Rg (by rw[Lm];omega),Option.bind_some,Ar rfl]
 dsimp only
 rw[show((B.length:Int)==(k:Int))=true by rw[hl];simp,cond_true,Ri (by simp),Option.bind_some,Ar rfl]
 rfl
theorem wf_u64{n:Int}(h:(Lit.int .u64 n).wf=true):0≤n∧n<18446744073709551616:=by simp[Lit.wf,IntKind.min,IntKind.max,IntKind.bits,IntKind.signed]at h;omega
theorem wf_u8{n:Int}(h:(Lit.int .u8 n).wf=true):0≤n∧n<256:=by simp[Lit.wf,IntKind.min,IntKind.max,IntKind.bits,IntKind.signed]at h;omega
theorem wf_u16{n:Int}(h:(Lit.int .u16 n).wf=true):0≤n∧n<65536:=by simp[Lit.wf,IntKind.min,IntKind.max,IntKind.bits,IntKind.signed]at h;omega
theorem okWide_array{P:Program}{w:World}{r:Reach}{base:Nat}{t:TypeId}{v:Value}{n:Nat}{e:TypeId}(ht:P.underlying t=some (.array n e))(h:Value.okWide P w r base t v):∃ cs,v = .agg cs∧True:=by
 simp only[Value.okWide,ht]at h;obtain⟨cs,h1,_⟩:=h;exact⟨cs,h1,trivial⟩
abbrev Iall(w:World):Nat→Nat→Prop:=fun b o=>∃ u,w.cell? ⟨b,o,none⟩=some u
structure Oy(w:World)(cs:List Value)(avs:List AV):Prop where
 len:cs.length=avs.length
 one:∀ j,j<avs.length→(cs.getD j undef).oneCell'=true
 rep:∀ j,j<avs.length→RepV (Iall w) w (cs.getD j undef) (avs.getD j .any)
structure Gn(P:Program)(t:TypeId){α:Type}(e:α→List AV)(ok:α→Prop):Prop where
 get:∀{H:Type} {enc:TypeId×Value→H} {w:World} {base:Nat} {spare:Nat→Bool} {held:Bool} {fuel:Nat} {cs:List Value} {x:DataW H×List MemPlace},
  DataW.trod enc P w base spare held fuel t cs=some x→∃ a,ok a∧Oy w cs (e a)
theorem Qy{w:World}{v:Value}{x:AV}(h1:v.oneCell'=true)(h:RepV (Iall w) w v x):Oy w [v] [x]:=
 ⟨rfl,fun j hj=>(by
   have hj0:j=0:=by simpa using hj
   subst hj0
   exact h1),fun j hj=>(by
   have hj0:j=0:=by simpa using hj
   subst hj0
   exact h)⟩
theorem Ho{P:Program}{t:TypeId}{k:IntKind}{e:Int→List AV}(ht:P.underlying t=some (.int k))(he:∀ n,e n=[.int k n]):Gn P t e (fun n=>(Lit.int k n).wf=true):=by
 refine⟨?_⟩;intro H enc w base spare held fuel cs x h;obtain⟨n,rfl,rfl,hw⟩:=DataW.trod_int ht h;exact⟨n,hw,by rw[he];exact Qy rfl (.int _ _)⟩
theorem Qz{w:World}{c d:Value}{l m:List AV}(h:Oy w [c] l)(k:Oy w [d] m):Oy w [c,d] (l++m):=by
 have h1:l.length=1:=h.len.symm;have k1:m.length=1:=k.len.symm;refine⟨by simp[h1,k1],fun j hj=>?_,fun j hj=>?_⟩
 ·have hj':j<2:=by simp[h1,k1]at hj;omega
  by_cases h0:j=0
  ·subst h0;exact h.one 0 (by omega)
  ·obtain rfl:j=1:=by omega
   exact k.one 0 (by omega)
 ·have hj':j<2:=by simp[h1,k1]at hj;omega
  by_cases h0:j=0
  ·subst h0;have:=h.rep 0 (by omega);rwa[List.getD_eq_getElem?_getD (l:=l++m),List.getElem?_append_left (by omega),← List.getD_eq_getElem?_getD]
  ·obtain rfl:j=1:=by omega
   have:=k.rep 0 (by omega);rw[List.getD_eq_getElem?_getD (l:=l++m),List.getElem?_append_right (by omega),h1,← List.getD_eq_getElem?_getD];exact this
theorem Lj{P:Program}{t el:TypeId}{α:Type}{e:α→List AV}{ok:α→Prop}{e':α×α→List AV}(ht:P.underlying t=some (.array 2 el))(htc:P.cellsOf t=2)(hs:P.cellsOf el=1)(he:Gn P el e ok)(he':∀ p,e' p=e p.1++e p.2) :
  Gn P t e' (fun p=>ok p.1∧ok p.2):=by
 refine⟨?_⟩;intro H enc w base spare held fuel cs x h;obtain⟨xs,n,_,_,hcl,hxl,hall⟩:=DataW.trod_array ht h;rw[htc]at hcl
 match cs,hcl,hall with
 | [c0,c1],_,hall=>
  have h0:=hall 0 (by omega);have h1:=hall 1 (by omega);rw[hs,List.getElem?_eq_getElem (by omega)]at h0 h1;obtain⟨a,ha,hra⟩:=he.get h0;obtain⟨b,hb,hrb⟩:=he.get h1;exact⟨(a,b),⟨ha,hb⟩,by rw[he'];exact Qz hra hrb⟩
structure Vi(P:Program)(fs:List Field)(off N:Nat){α:Type}(e:α→List AV)(ok:α→Prop):Prop where
 get:∀{H:Type} {enc:TypeId×Value→H} {w:World} {base:Nat} {spare:Nat→Bool} {held:Bool} {n:Nat} {cs:List Value},cs.length=N→
  (∀ f∈fs,∃ x,DataW.trod enc P w base spare held n f.type ((cs.drop f.offset).take (P.cellsOf f.type))=some x)→∃ a,ok a∧Oy w (cs.drop off) (e a)
theorem arg_one{P:Program}{t:TypeId}{α:Type}{e:α→List AV}{ok:α→Prop}(h:Gn P t e ok){x:α→AV}(he:∀ a,e a=[x a]){H:Type}{enc:TypeId×Value→H}{w:World}{base:Nat}{spare:Nat→Bool}{held:Bool}{v:Value}{d:DataW H}{ps:List MemPlace}
  (hv:v.cells = #[v]) (hd:DataW.Trod enc P w base spare held t v d ps):∃ a,ok a∧RepV (Iall w) w v (x a):=by
 obtain⟨fuel,hf⟩:=hd;obtain⟨a,ha,hr⟩:=h.get hf;refine⟨a,ha,?_⟩;have:=hr.rep 0 (by simp[he])
 simpa [hv,he] using this
theorem arg_agg{P:Program}{t:TypeId}{α:Type}{e:α→List AV}{ok:α→Prop}(h:Gn P t e ok){H:Type}{enc:TypeId×Value→H}{w:World}{base:Nat}{spare:Nat→Bool}{held:Bool}{cs:Array Value}{d:DataW H}{ps:List MemPlace}
  (hd:DataW.Trod enc P w base spare held t (.agg cs) d ps):∃ a,ok a∧RepV (Iall w) w (.agg cs) (.agg (e a)):=by
 obtain⟨fuel,hf⟩:=hd;obtain⟨a,ha,hr⟩:=h.get hf;have e1:(Value.agg cs).cells.toList=cs.toList:=rfl;rw[e1]at hr
 have e2:∀ j,cs.toList.getD j undef=cs.getD j undef:=fun j=>by simp[Array.getD_eq_getD_getElem?,List.getD]
 refine⟨a,ha,.agg _ _ (by simpa using hr.len) (fun j hj=>?_) (fun j hj=>?_)⟩
 ·rw[← e2];exact hr.one j hj
 ·rw[← e2];exact hr.rep j hj
def T4(n:Int):Prop:=(Lit.int .u8 n).wf=true
theorem Vw:Gn Try.prog 5 Cn T4:=Ho Try.underlying5 (fun _=>rfl)
def okU64(n:Int):Prop:=(Lit.int .u64 n).wf=true
theorem op_33:Gn Try.prog 33 C2 okU64:=Ho Try.underlying33 (fun _=>rfl)
def okU16(n:Int):Prop:=(Lit.int .u16 n).wf=true
theorem op_52:Gn Try.prog 52 Vq okU16:=Ho Try.underlying52 (fun _=>rfl)
def okA2U8(p:(Int×Int)):Prop:=T4 p.1∧T4 p.2
theorem op_59:Gn Try.prog 59 eA2U8 okA2U8:=Lj Try.underlying59 (by kernel_rfl) (by kernel_rfl) Vw (fun _=>rfl)
end
end Go.Proofs.Ytbhekciniaeolaa
