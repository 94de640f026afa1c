/-
  The machine, the program's functions and the laws' arithmetic: part 3 of 3.
-/
import Derived.Test.YtbhekciniaeolaaPk2
import Derived.OpenShut
import Derived.ShutString
import Derived.Test.YtbhekciniaeolaaProg
set_option linter.unusedVariables false
set_option linter.unusedSimpArgs false
namespace Go.Proofs.Ytbhekciniaeolaa
noncomputable section
open Go Go.RowKit
inductive Sd where
 | nx (y:Code)
 | bl (id:Nat)
 | ag (c:Code) (n:Nat)
inductive De where
 | run (c:Code) (fs:List Sd)
 | out (e:Exit) (fs:List Sd)
def Pm(P:Program)(Γ:Cz)(K:Exit→St→Prop):List Sd→Exit→St→Prop
 | []=>K
 | .nx y::fs=>Tv P Γ y (Pm P Γ K fs)
 | .bl id::fs=>Gj id (Pm P Γ K fs)
 | .ag c n::fs=>fun e st=>(e = .normal∧Ok P Γ c (Pm P Γ K fs) n st)∨(e≠.normal∧Pm P Γ K fs e st)
def GG(P:Program)(Γ:Cz)(K:Exit→St→Prop):De→St→Prop
 | .run c fs,st=>E4 P Γ c (Pm P Γ K fs) st
 | .out e fs,st=>Pm P Γ K fs e st
def E8:Code→Nat→Nat
 | .exit i,k=>bif Nat.beq i k then 1 else 0
 | .seq a b,k=>Nat.min 2 (E8 a k+E8 b k)
 | .cond _ a b,k=>Nat.min 2 (E8 a k+E8 b k)
 | .loop c,k=>Nat.min 1 (E8 c k)
 | .scope c,k=>Nat.min 1 (E8 c k)
 | .block _ c,k=>E8 c k
 | _,_=>0
def Du:Code→Nat
 | .region _ _ _=>1
 | .skip=>1
 | .label _=>1
 | .seq a b=>bif Nat.beq (Du a) 0 then 0 else Du b
 | .cond _ a b=>Nat.min 2 (Du a+Du b)
 | .block i c=>Nat.min 2 (Du c+E8 c i)
 | .scope c=>Nat.min 2 (Du c)
 | _=>0
def Rh(a:Code):Bool:=match a with | .region _ _ _=>false|a=>Nat.ble 2 (Du a)
def Jg:Nat→Code ⊕ Exit→List Sd→De
 | 0,.inl c,fs=>.run c fs
 | 0,.inr e,fs=>.out e fs
 | n+1,.inl c,fs=>
  match c with
  | .skip=>Jg n (.inr .normal) fs
  | .label _=>Jg n (.inr .normal) fs
  | .seq a b=>bif Rh a then .run (.seq a b) fs else Jg n (.inl a) (.nx b::fs)
  | .block id a=>Jg n (.inl a) (.bl id::fs)
  | .exit id=>Jg n (.inr (.exit id)) fs
  | .goto l=>Jg n (.inr (.goto l)) fs
  | .ret=>Jg n (.inr .ret) fs
  | c=>.run c fs
 | n+1,.inr e,fs=>
  match fs with
  | []=>.out e []
  | .nx y::fs=>(match e with | .normal=>Jg n (.inl y) fs|e=>Jg n (.inr e) fs)
  | .bl id::fs=>(match e with | .exit i=>bif Nat.beq i id then Jg n (.inr .normal) fs else Jg n (.inr (.exit i)) fs|e=>Jg n (.inr e) fs)
  | .ag c m::fs=>(match e with | .normal=>(match m with|0=>.out .normal (.ag c 0::fs)|m+1=>Jg n (.inl c) (.ag c m::fs))|e=>Jg n (.inr e) fs)
section
variable {P:Program} {Γ:Cz} {K:Exit→St→Prop}
theorem Ao:∀(n:Nat) (x:Code ⊕ Exit) (fs:List Sd) (st:St),GG P Γ K (Jg n x fs) st→(match x with | .inl c=>E4 P Γ c (Pm P Γ K fs) st | .inr e=>Pm P Γ K fs e st)
 | 0,.inl c,fs,st,h=>h
 | 0,.inr e,fs,st,h=>h
 | n+1,.inl c,fs,st,h=>by
  cases c with
  | skip=>exact Qx (Ao n (.inr .normal) fs st h)
  | label l=>exact Ph (Ao n (.inr .normal) fs st h)
  | seq a b=>
   cases hj:Rh a with
   | true=>simp only[Jg,hj,cond_true]at h;exact h
   | false=>simp only[Jg,hj,cond_false]at h;exact On (Ao n (.inl a) (.nx b::fs) st h)
  | block id a=>exact Pg (Ao n (.inl a) (.bl id::fs) st h)
  | exit id=>exact Qq (Ao n (.inr (.exit id)) fs st h)
  | goto l=>exact Qr (Ao n (.inr (.goto l)) fs st h)
  | ret=>exact Sg (Ao n (.inr .ret) fs st h)
  | _=>exact h
 | n+1,.inr e,[],st,h=>h
 | n+1,.inr e,.nx y::fs,st,h=>by
  cases e with
  | normal=>exact Ao n (.inl y) fs st h
  | exit i=>exact Ao n (.inr (.exit i)) fs st h
  | goto l=>exact Ao n (.inr (.goto l)) fs st h
  | ret=>exact Ao n (.inr .ret) fs st h
  | panic c=>exact Ao n (.inr (.panic c)) fs st h
  | outgrown=>exact Ao n (.inr .outgrown) fs st h
 | n+1,.inr e,.bl id::fs,st,h=>by
  cases e with
  | normal=>exact Ao n (.inr .normal) fs st h
  | exit i=>
   show Gj id (Pm P Γ K fs) (.exit i) st
   cases hb:Nat.beq i id with
   | true=>
    obtain rfl:=Nat.eq_of_beq_eq_true hb;simp only[Jg,hb,cond_true]at h;exact Ns (Ao n (.inr .normal) fs st h)
   | false=>
    simp only[Jg,hb,cond_false]at h;exact Nr hb (Ao n (.inr (.exit i)) fs st h)
  | goto l=>exact Ao n (.inr (.goto l)) fs st h
  | ret=>exact Ao n (.inr .ret) fs st h
  | panic c=>exact Ao n (.inr (.panic c)) fs st h
  | outgrown=>exact Ao n (.inr .outgrown) fs st h
 | n+1,.inr e,.ag c m::fs,st,h=>by
  cases e with
  | normal=>
   cases m with
   | zero=>exact h
   | succ m=>exact .inl ⟨rfl,Ao n (.inl c) (.ag c m::fs) st h⟩
  | exit i=>exact .inr ⟨(by intro hh;cases hh),Ao n (.inr (.exit i)) fs st h⟩
  | goto l=>exact .inr ⟨(by intro hh;cases hh),Ao n (.inr (.goto l)) fs st h⟩
  | ret=>exact .inr ⟨(by intro hh;cases hh),Ao n (.inr .ret) fs st h⟩
  | panic ch=>exact .inr ⟨(by intro hh;cases hh),Ao n (.inr (.panic ch)) fs st h⟩
  | outgrown=>exact .inr ⟨(by intro hh;cases hh),Ao n (.inr .outgrown) fs st h⟩
theorem Cg{n:Nat}{c:Code}{fs:List Sd}{st:St}(h:GG P Γ K (Jg n (.inl c) fs) st):E4 P Γ c (Pm P Γ K fs) st:=Ao n (.inl c) fs st h
theorem G7{n:Nat}{e:Exit}{fs:List Sd}{st:St}(h:GG P Γ K (Jg n (.inr e) fs) st):Pm P Γ K fs e st:=Ao n (.inr e) fs st h
def Us(c:Code)(fs:List Sd):De:=Jg 400 (.inl c) fs
def V3(e:Exit)(fs:List Sd):De:=Jg 400 (.inr e) fs
def Wp:De→De
 | .run _ fs=>V3 .normal fs
 | x=>x
def S2:De→Option (List Oper×Bool)
 | .run (.region _ ops draw) _=>some (ops.toList,draw)
 | _=>none
def U0(P:Program)(S:Gw)(n:Nat)(cs:List (Nat×AV))(live names:List Nat)(x:De)(st:St)(rs:List F6):Option (St×List Prop×Bool):=
 match S2 x with
 | some (ops,draw)=>Ij P S n cs live names ops draw st rs
 | none=>none
def V7(P:Program)(S:Gw)(n:Nat)(cs:List (Nat×AV))(live names:List Nat)(x:De)(st:St)(rs:List F6):St:=
 match U0 P S n cs live names x st rs with
 | some r=>r.1
 | none=>st
def Ut(r:Option (St×List Prop×Bool)):Option (Prop×Bool):=
 match r with
 | some r=>some (Ml r.2.1,r.2.2)
 | none=>none
theorem gR{x:De}{st:St}{n:Nat}{H:List (Nat×Own)}(q:RgQ P Γ n H)(live names:List Nat)(cs:List (Nat×AV))(rs:List F6){O:Prop}(hO:O)
  (k:GG P Γ K (Wp x) (V7 P (Spec P) n cs live names x st rs))
  (h:Ut (U0 P (Spec P) n cs live names x st rs)=some (O,true):=by kernel_rfl) (hh:(H.all fun x=>Cj x.1 names)=true:=by kernel_rfl):GG P Γ K x st:=by
 unfold U0 at h;unfold V7 U0 at k
 cases x with
 | out e fs=>simp[S2,Ut]at h
 | run c fs=>
  cases c with
  | region id ops draw=>
   simp only[S2]at h k
   cases hr:Ij P (Spec P) n cs live names ops.toList draw st rs with
   | none=>rw[hr]at h;simp[Ut]at h
   | some r=>
    obtain⟨st',obs,d⟩:=r;rw[hr]at h k;simp only[Ut,Option.some.injEq,Prod.mk.injEq]at h;obtain⟨rfl,rfl⟩:=h;have:=Nq (id:=id) (K:=Pm P Γ K fs) q.hn q.mix (q.hand hh) hr hO (G7 k);exact(by simpa using this:E4 P Γ (.region id ops draw) (Pm P Γ K fs) st)
  | _=>simp[S2,Ut]at h
theorem Cc{x:De}{st:St}{n:Nat}{H:List (Nat×Own)}(q:RgQ P Γ n H)(live names:List Nat)
  (k:GG P Γ K (Wp x) (V7 P (Spec P) n [] live names x st []))
  (h:Ut (U0 P (Spec P) n [] live names x st [])=some (True,true):=by kernel_rfl) (hh:(H.all fun x=>Cj x.1 names)=true:=by kernel_rfl):GG P Γ K x st:=gR q live names [] [] trivial k h hh
def Ts:De→Bool | .run _ _=>true|_=>false
theorem Vl{x:De}{st st':St}(h:Le Γ st st')
  (k:GG P Γ K x st')
  (hx:Ts x=true:=by kernel_rfl):GG P Γ K x st:=by
 cases x with
 | run c fs=>exact Qt h k
 | out e fs=>cases hx
theorem T2{x:De}{st:St}(st':St)
  (k:GG P Γ K x st')
  (h:st=st':=by kernel_rfl):GG P Γ K x st:=h▸k
def Q2(x:De)(st:St):AV:=match x with | .run (.cond c _ _) _=>Mo st.get c|_=>.any
def Uz(b:Bool):De→De
 | .run (.cond _ c d) fs=>Us (bif b then c else d) fs
 | x=>x
theorem gC{x:De}{st:St}{R:Type}{b:Bool}{m1 m2:Option R}{r:R}(h:(bif b then m1 else m2)=some r)
  (kt:m1=some r→GG P Γ K (Uz true x) st) (kf:m2=some r→GG P Γ K (Uz false x) st)
  (hv:Q2 x st = .bool b:=by kernel_rfl):GG P Γ K x st:=by
 cases x with
 | out e fs=>cases hv
 | run c fs=>
  cases c with
  | cond c y z=>
   refine Mj b hv (fun hb=>Cg (n:=400) (kt ?_)) (fun hb=>Cg (n:=400) (kf ?_))
   ·subst hb;exact h
   ·subst hb;exact h
  | _=>cases hv
theorem T3{x:De}{st:St}(b:Bool)
  (k:GG P Γ K (Uz b x) st)
  (hv:Q2 x st = .bool b:=by kernel_rfl):GG P Γ K x st:=by
 cases x with
 | out e fs=>cases hv
 | run c fs=>
  cases c with
  | cond c y z=>
   refine Mj b hv (fun hb=>Cg (n:=400) ?_) (fun hb=>Cg (n:=400) ?_)
   ·subst hb;exact k
   ·subst hb;exact k
  | _=>cases hv
theorem U3{x:De}{st:St}(pos:Bool)(n:Nat)
  (kt:(pos=true→n=0)→GG P Γ K (Uz true x) st) (kf:(pos=false→n=0)→GG P Γ K (Uz false x) st)
  (hv:Q2 x st = .nilq pos n:=by kernel_rfl):GG P Γ K x st:=by
 cases x with
 | out e fs=>cases hv
 | run c fs=>
  cases c with
  | cond c y z=>exact Qw pos n hv (fun hb=>Cg (n:=400) (kt hb)) (fun hb=>Cg (n:=400) (kf hb))
  | _=>cases hv
theorem gB{R:Type}{c:Bool}{m1 m2:Option R}{r:R}{G:Prop}(h:(bif c then m1 else m2)=some r)(kt:c=true→m1=some r→G)(kf:c=false→m2=some r→G):G:=by
 cases c with
 | true=>exact kt rfl h
 | false=>exact kf rfl h
theorem Tp(F:Bool→Prop){c b:Bool}(hs:c=b)(h:F c):F b:=hs▸h
theorem Ct{a b:Bool}(h:a=b):AVle (.bool a) (.bool b):=by rw[h];exact .refl _
theorem C8{p:Prop}(h:false=true):p:=Bool.noConfusion h
theorem Sb{p:Prop}(h:true=false):p:=Bool.noConfusion h
theorem gK{x:De}{st:St}{e:Exit}(h:K e st)(hx:x = .out e []:=by kernel_rfl):GG P Γ K x st:=by subst hx;exact h
def aG(Γ:Cz)(e0:Exit)(og:St):Exit→St→Prop:=fun e st=>e=e0∧Le Γ st og
def aR(K:Exit→St→Prop):Exit→St→Prop:=fun e st=>e = .ret∧K e st
theorem P7{e0:Exit}{og st:St}(h:Le Γ st og):aG Γ e0 og e0 st:=⟨rfl,h⟩
theorem Tn{st:St}(h:K .ret st):aR K .ret st:=⟨rfl,h⟩
def Ws:Exit→Bool | .normal=>true|_=>false
theorem gN{S X:Type}{x:De}{st:St}{H:S→St}{KX:X→Exit→St→Prop}{s':S}(h:Le Γ st (H s'))(hx:x = .out .normal []:=by kernel_rfl):GG P Γ (L4 Γ H KX (.next s')) x st:=by
 subst hx;exact⟨rfl,h⟩
theorem gO{S X:Type}{x:De}{st:St}{H:S→St}{KX:X→Exit→St→Prop}{y:X}{e:Exit}(h:KX y e st)(hx:x = .out e []:=by kernel_rfl)(hn:Ws e=false:=by kernel_rfl):GG P Γ (L4 Γ H KX (.done y)) x st:=by
 subst hx;exact⟨(by rintro rfl;cases hn),h⟩
def fK(P:Program)(Γ:Cz)(rs:List ResultVar)(H:List (Nat×Own))(res:AV)(H':List (Nat×Own)):Exit→St→Prop:=Wn Γ (Vd P rs H res H')
theorem Ou{rs:List ResultVar}{H H':List (Nat×Own)}{res:AV}{st st':St}{e:Exit}(ρ:List (Nat×Nat))(hl:Le Γ st st')(hr:O5 P rs ρ H st'=some (res,H'):=by kernel_rfl)
  (he:(match e with | .ret=>true | .normal=>true|_=>false)=true:=by kernel_rfl):fK P Γ rs H res H' e st:=by
 refine⟨st',hl,?_,ρ,hr⟩
 cases e with
 | ret=>exact .inl rfl
 | normal=>exact .inr rfl
 | _=>cases he
theorem Gv{rs:List ResultVar}{H H':List (Nat×Own)}{res:AV}{x:De}{st:St}(ρ:List (Nat×Nat))(hr:O5 P rs ρ H st=some (res,H'):=by kernel_rfl)
  (hx:x = .out .ret []:=by kernel_rfl):GG P Γ (fK P Γ rs H res H') x st:=gK (e:=.ret) (Ou ρ (Le.refl _ _) hr) hx
def Nt(fn:Func):Code:=match fn.body with|some c=>c|none=>.skip
theorem Bf {f : FuncId} {fn : Func} {args : List AV} {H H' : List (Nat × Own)} {res : AV} (hm : P.follows .mixedOrders = true) (hf : P.funcs[f]? = some fn)
    (k : ∀ Γ : Cz, RgQ P Γ fn.ntmps H → GG P Γ (fK P Γ fn.results.toList H res H') (Us (Nt fn) []) (Ja args H))
    (hb : fn.body.isSome = true := by kernel_rfl) (hname : (fn.name == "runtime.NumGoroutine") = false := by kernel_rfl) (hlen : Nat.ble args.length fn.ntmps = true := by kernel_rfl) (hpl : L2 H = true := by kernel_rfl) : Spec P f args H res H' := by
  obtain ⟨c, hc⟩ := Option.isSome_iff_exists.1 hb
  have e : Nt fn = c := by unfold Nt; rw [hc]
  refine Nc hf hc hname hlen (fun Γ hn hΓ => ?_) hpl; have := k Γ ⟨hn, hm, hΓ⟩; rw [e] at this; exact T0 (Cg this)
theorem T7{st st':St}(h:st=st'):Le Γ st st':=h▸Le.refl Γ st
def T5:De→Bool | .run (.loop _) _=>true|_=>false
def Uy:De→De
 | .run (.loop c) _=>Us c []
 | x=>x
def Va(e:Exit):De→De
 | .run _ fs=>V3 e fs
 | x=>x
def Vb{α:Type}(k:Nat)(x:α):List (Nat×α)→List (Nat×α)
 | []=>[(k,x)]
 | (k',y)::l=>bif Nat.beq k k' then(k,x)::l else bif Nat.blt k k' then(k,x)::(k',y)::l else(k',y)::Vb k x l
def S4{α:Type}:List (Nat×α)→List (Nat×α)→List (Nat×α)
 | [],l=>l
 | (k,x)::r,l=>S4 r (Vb k x l)
def Sc(st:St)(ts:List (Nat×AV))(os:List (Nat×Own))(fs:List (Nat×Qb):=[]):St:=⟨S4 ts st.tmps,S4 os st.own,S4 fs st.fam⟩
def Wt(live names:List Nat)(st:St)(ts:List (Nat×AV))(os:List (Nat×Own))(fs:List (Nat×Qb):=[]):St:=Br live names (Sc st ts os fs)
theorem gL{S X:Type}{x:De}{st:St}{n:Nat}{Hf:List (Nat×Own)}(q:RgQ P Γ n Hf){f:S→Option (LR S X)}{s0:S}{y:X}(hx:Cn f s0=some y)(live names:List Nat)(H:St→S→St)(KX:St→X→Exit→St→Prop)
  (kb:∀ s y,f s=some y→GG P Γ (L4 Γ (H (Br live names st)) (KX (Br live names st)) y) (Uy x) (H (Br live names st) s)) (ko:∀ e st',KX (Br live names st) y e st'→GG P Γ K (Va e x) st')
  (h0:Br live names st=H (Br live names st) s0:=by kernel_rfl) (hl:T5 x=true:=by kernel_rfl) (hh:(Hf.all fun x=>Cj x.1 names)=true:=by kernel_rfl):GG P Γ K x st:=by
 cases x with
 | out e fs=>cases hl
 | run c fs=>
  cases c with
  | loop c=>
   refine Qt (st':=H (Br live names st) s0) ?_ (Qu (H (Br live names st)) f (KX (Br live names st)) (fun s y hy=>Cg (kb s y hy)) hx fun e st' hk=>G7 (ko e st' hk));rw[← h0];exact J8 live names q rfl hh
  | _=>cases hl
theorem gA{x:De}{f:Exit→De→De}{e0:Exit}{og:St}
  (k:GG P Γ K (f e0 x) og)
  (hr:Ts (f e0 x)=true:=by kernel_rfl):∀ e st',aG Γ e0 og e st'→GG P Γ K (f e x) st':=by
 rintro e st' ⟨rfl,hl⟩;exact Vl hl k hr
theorem V4{x:De}{f:Exit→De→De}{e0:Exit}{og:St}(k:∀ st',Le Γ st' og→GG P Γ K (f e0 x) st'):∀ e st',aG Γ e0 og e st'→GG P Γ K (f e x) st':=by
 rintro e st' ⟨rfl,hl⟩;exact k st' hl
theorem Vk{x:De}{f:Exit→De→De}{K':Exit→St→Prop}(k:∀ st',K' .ret st'→GG P Γ K (f .ret x) st'):∀ e st',aR K' e st'→GG P Γ K (f e x) st':=by
 rintro e st' ⟨rfl,hl⟩;exact k st' hl
def U5:De→Bool | .run (.seq _ _) _=>true|_=>false
def U4:De→De
 | .run (.seq a _) _=>Us a []
 | x=>x
def Vc(e:Exit):De→De
 | .run (.seq _ b) fs=>V3 e (.nx b::fs)
 | x=>x
theorem gJ{X:Type}{x:De}{st:St}{m:Option X}{y:X}(hx:m=some y)(KX:X→Exit→St→Prop)
  (kb:∀ y,m=some y→GG P Γ (KX y) (U4 x) st) (ko:∀ e st',KX y e st'→GG P Γ K (Vc e x) st')
  (hs:U5 x=true:=by kernel_rfl):GG P Γ K x st:=by
 cases x with
 | out e fs=>cases hs
 | run c fs=>
  cases c with
  | seq a b=>exact On (Qs KX hx (fun y hy=>Cg (kb y hy)) fun e st' hk=>G7 (ko e st' hk))
  | _=>cases hs
def Sq:De→Bool | .run (.scope _) _=>true|_=>false
def Ve:De→Code | .run (.scope c) _=>c|_=>.skip
def U6(c:Code)(l:Nat):De:=Us ((findLabel c l).getD .skip) []
theorem gS{S X:Type}{x:De}{st:St}{f0:Option (LR S X)}{f:S→Option (LR S X)}{y:X}(hx:Ec f0 f=some y)(lab:S→Nat)(H:S→St)(KX:X→Exit→St→Prop)
  (k0:∀ y,f0=some y→GG P Γ (Jc Γ (Ve x) lab H KX y) (Us (Ve x) []) st) (kb:∀ s y,f s=some y→GG P Γ (Jc Γ (Ve x) lab H KX y) (U6 (Ve x) (lab s)) (H s)) (ko:∀ e st',KX y e st'→GG P Γ K (Va e x) st')
  (hs:Sq x=true:=by kernel_rfl):GG P Γ K x st:=by
 cases x with
 | out e fs=>cases hs
 | run c fs=>
  cases c with
  | scope c=>
   refine Pi lab H f0 f KX (fun y hy=>Cg (k0 y hy)) (fun s y rest hf hy=>?_) hx fun e st' hk=>G7 (ko e st' hk);have:=kb s y hy;unfold U6 Ve at this;rw[hf]at this;exact Cg this
  | _=>cases hs
theorem Wo{S X:Type}{x:De}{st:St}{c:Code}{lab:S→Nat}{H:S→St}{KX:X→Exit→St→Prop}{s':S}(h:Le Γ st (H s'))(hx:x = .out (.goto (lab s')) []:=by kernel_rfl)(hf:(findLabel c (lab s')).isSome=true:=by kernel_rfl) :
  GG P Γ (Jc Γ c lab H KX (.next s')) x st:=by
 subst hx;exact⟨rfl,hf,h⟩
theorem Ur{S X:Type}{x:De}{st:St}{c:Code}{lab:S→Nat}{H:S→St}{KX:X→Exit→St→Prop}{y:X}{e:Exit}(h:KX y e st)(hx:x = .out e []:=by kernel_rfl)
  (hf:(match e with | .goto l=>(findLabel c l).isNone|_=>true)=true:=by kernel_rfl):GG P Γ (Jc Γ c lab H KX (.done y)) x st:=by
 subst hx;refine⟨?_,h⟩;rintro l rfl
 simpa using hf
theorem V6{α:Type}{st:St}(U:α→St→St){a b:α}(h:a=b)(h1:st=U a st:=by kernel_rfl):Le Γ st (U b st):=by subst h;exact T7 h1
def Own.withF(g:Nat→List AV):Own→Own
 | .arr sz e n _=>.arr sz e n g
 | o=>o
def To(st:St)(nm:Nat):Option (Nat×(Nat→List AV)):=match Ab st.own nm with|some (.arr _ _ n f)=>some (n,f)|_=>none
def Vf(nm:Nat)(g:Nat→List AV)(st:St):St:=⟨st.tmps,(match Ab st.own nm with|some o=>Cp st.own nm (o.withF g)|none=>st.own),st.fam⟩
theorem Jn{nm sz n:Nat}{e:TypeId}{f g:Nat→List AV}(hp:∀ k,k<n→AVleL (f k) (g k)):∀{l:List (Nat×Own)},Ab l nm=some (.arr sz e n f)→OwnsLe l (Cp l nm (.arr sz e n g))
 | [],h=>by cases h
 | (k,o)::l,h=>by
  simp only[Ab]at h;simp only[Cp]
  cases hb:Nat.beq k nm with
  | true=>
   obtain rfl:=Nat.eq_of_beq_eq_true hb;rw[hb]at h;simp only[cond_true,Option.some.injEq]at h;subst h;exact .arr hp (.refl _)
  | false=>
   rw[hb]at h;exact .same (Jn hp h)
theorem V5{st:St}(nm:Nat){n:Nat}{f g:Nat→List AV}(hp:∀ k,k<n→AVleL (f k) (g k))(h:To st nm=some (n,f):=by kernel_rfl):Le Γ st (Vf nm g st):=by
 unfold To at h;unfold Vf
 cases ho:Ab st.own nm with
 | none=>rw[ho]at h;cases h
 | some o=>
  rw[ho]at h
  cases o with
  | arr sz e n' f'=>
   simp only[Option.some.injEq,Prod.mk.injEq]at h;obtain⟨rfl,rfl⟩:=h;exact U7 (TmpsLe.refl _) (Jn hp ho)
  | _=>cases h
theorem gI(g:Bool):g=true→g=true:=id
theorem Fb(c:Bool):c=true→(c==true)=true:=gT
theorem Uq(c:Bool):c=false→(c==false)=true:=gF
theorem Fw{α:Type}(sz:Nat)(e:α→List AV)(d:α)(l:List α):AVle (.slice sz l.length (fun i=>(l.map e).getD i []) .exact) (AV.list sz e d l .exact):=Np rfl fun i h=>Sw l i h
theorem Dj{α:Type}(sz:Nat)(e:α→List AV)(d:α):AVle (.slice 0 0 (fun _=>[]) .exact) (AV.list sz e d [] .exact):=Qp
theorem Ll{α:Type}(sz nm:Nat)(e:α→List AV)(d:α)(l m:List α):AVle (.slice sz (l.length+m.length) (C0 l.length (fun i=>e (l.getD i d)) (fun i=>e (m.getD i d))) (.own nm)) (AV.list sz e d (l++m) (.own nm)):=Tz
theorem Ss{st st':St}(h:st=st':=by kernel_rfl):Le Γ st st':=h▸Le.refl Γ st
theorem ci{p q:Prop}(a:p)(b:q):p∧q:=⟨a,b⟩
theorem c1{p:Prop}(a:p):p∧True:=⟨a,trivial⟩
end
set_option maxRecDepth 100000
set_option maxHeartbeats 2000000
def Df(x:Int):List AV:=[(.int .u64 x)]
def U2(x:Int):List AV:=[(.int .i64 x)]
structure Wu where
 Write:Bool
 At:Int
 Bits:Int
 N:Int
 List:List Int
 deriving Inhabited,DecidableEq
def eU8(x:Int):List AV:=[(.int .u8 x)]
def V1(x:List Int):List AV:=[(AV.list 1 eU8 0 x .none)]
structure Aa where
 Write:Bool
 At:Int
 Byte:Int
 deriving Inhabited,DecidableEq
def Am(x:Aa):List AV:=[(.bool x.Write),(.int .u64 x.At),(.int .u8 x.Byte)]
structure Hw where
 bytes:List Int
 trace:List Aa
 deriving Inhabited,DecidableEq
def V2(x:Int):List AV:=[(.int .u16 x)]
theorem mix:Try.prog.follows .mixedOrders=true:=by kernel_rfl
def Q3:AV:=(AV.list 1 eU8 0 ([]:List Int) .exact)
def Q4:=(⟨[(2,(.vsl 36002 ([]:List Int).length))],[(36002,.arr 1 5 (([]:List Int).length) (fun i=>eU8 (([]:List Int).getD i 0)))],[]⟩:St)
def Z1:=fun za zb zc zd zf=>((za,.row 63 [(.vsl zb zc),(AV.list 3 Am default zd (.own zf))]):Nat×Own)
def Z2:=fun za (zb:List Int)=>((za,.arr 1 5 zb.length (fun i=>eU8 (zb.getD i 0))):Nat×Own)
def Z3:=fun za zb zc zd=>([(Z1 30000 35000 za zb 37001),(37001,.tok 3 49 zc),(Z2 35000 zd)]:List (Nat×Own))
def Z4:=fun za zb zc zd zf zg zm=>([(Z1 za zb zc zd zf),(Z2 zb zg),(zf,.tok 3 49 zm)]:List (Nat×Own))
def Z5:=fun za zb zc zd zf=>([(Z1 30000 35000 za zb 37001),(37001,.tok 3 49 zc),(Z2 35000 zd),(20000,.tok 3 49 zf)]:List (Nat×Own))
def Z6:=(⟨[],[],(.bool false),[],[]⟩:F6)
def Z7:=fun za zb zc zd zf zg zm zn zp zq zt=>(⟨[(za,30000),(zb,37001),(zc,35000)],[(20000,zd)],(.tuple [(AV.list 1 Df 0 zf (.own 20000)),(.int .i64 zg)]),[(Z1 30000 35000 zm zn 37001),(37001,.tok 3 49 zp),(Z2 35000 zq),(20000,.tok 1 33 zt)],[]⟩:F6)
def Z8:=fun za zb=>((AV.list 3 Am default za (.own zb)):AV)
def Z9:=fun za zb zc zd zf zg=>(⟨[],[(20000,za),(21000,zb),(21001,zc)],(.tuple [zd,(.int .i64 zf)]),(bif true then zg else[]),[]⟩:F6)
def Vt:=fun za zb=>(⟨[(11,30000),(60011001,37001),(60011000,35000)],[(20000,75)],za,zb,[]⟩:F6)
def Vu:=fun za zb zc zd zf zg=>(⟨[(za,30000),(zb,37001),(zc,35000)],[(20000,zd)],(AV.list 1 eU8 0 zf (.own 20000)),zg,[]⟩:F6)
def Pd:=fun za zb=>((Z1 30000 35000 za zb 37001):Nat×Own)
def Vv:=fun za zb=>(⟨[(11,30000),(60011001,37001),(60011000,35000)],[],(.bool za),zb,[]⟩:F6)
def Vw:=fun za zb zc=>(⟨[],[],(.tuple [za,(.int .i64 zb)]),(bif false then zc else[]),[]⟩:F6)
def Vx:=fun za zb zc zd zf zg=>(⟨[(za,30000),(zb,37001),(zc,35000)],[(20000,zd)],(Z8 zf 20000),zg,[]⟩:F6)
def Vy:=((AV.list 3 Am default ([]:List Aa) .exact):AV)
def Vz:=((AV.list 3 Am default ([]:List Aa) .none):AV)
def Gu:=fun za=>((.int .i64 za):AV)
def Tl:=((.int .u64 (3:Int)):AV)
def Wm:=fun za zb=>([(29,(AV.list 3 Am default za .exact)),(30,(AV.list 3 Am default (zb++za) (.own 37001)))]:List (Nat×AV))

def As(a7:List Int):Option (List Int):=
 (Do (a7.length≤room) (some a7))
theorem B4(a7:List Int)(r:List Int)(h:As a7=some r):Spec Try.prog 24 [(AV.list 1 eU8 0 a7 .none)] [] (.vsl 20000 r.length) [(20000,.arr 1 5 r.length (fun i=>eU8 (r.getD i 0)))]:=by
 refine Bf mix Try.func24 (fun Γ hq=>?_);unfold As at h;refine gR hq [0] [] [(2,Q3)] [] (c1 (Dj 1 eU8 (0:Int))) ?_;refine Cc hq [0,4] [] ?_;refine U3 true a7.length (fun hb=>?_) (fun hb=>?_)
 ·replace h:=Rn (some ([]:List Int)) (fun(l2:List Int)=>(Do (l2.length≤room) (some l2))) h (hb rfl) rfl (fun h0=>by first|exact h0|simpa [Do,room] using h0);clear hb;refine gR hq [2] [] [(2,Q3)] [] (c1 (Dj 1 eU8 (0:Int))) ?_;refine T2 (⟨[(2,Q3)],[],[]⟩:St) ?_;cases h;exact gK (e:=.ret) (Ou [(36002,20000)] (show Le Γ _ Q4 from Le.trans (J8 (st':=⟨[(2,Q3)],[],[]⟩) [2] [] hq) (Le.trans (T6 (t:=2) (nm:=36002) (sz':=1) (fun i=>eU8 (([]:List Int).getD i 0)) 5 rfl rfl) (J8 (st':=Q4) [2] [36002] hq))))
 ·clear hb;obtain⟨hc1,h⟩:=Ag h;refine gR hq [2] [7] [(5,Q3),(7,.vsl 7 0)] [] (ci (show(AVle (.slice 1 0 (fun i=>([]:List (List AV)).getD i []) .exact) Q3) from Np rfl (fun i hi=>absurd hi (Nat.not_lt_zero i))) (c1 hc1)) ?_;obtain rfl:=OI h;exact Gv [(7,20000)]
def Q6(x1:List Int):List AV:=[(.vsl 8 x1.length),Vy]
def Q7(x1:List Int):=(⟨[(2,(.ptr 10 0)),(3,(.int .i64 (0:Int)))],[(8,.arr 1 5 x1.length (fun i=>eU8 (x1.getD i 0))),(10,.row 63 (Q6 x1))],[]⟩:St)
def Q5(x1:List Int):=(⟨[(2,(.ptr 10 0)),(3,(.int .i64 (0:Int)))],[(8,.arr 1 5 x1.length (fun i=>eU8 (x1.getD i 0))),(10,.row 63 [(.vsl 8 x1.length),(AV.list 3 Am default ([]:List Aa) (.own 6102001))]),(6102001,.tok 3 49 (([]:List Aa).length))],[]⟩:St)
def B7(a1:List Int):Option ((Bool×Hw)×Int):=
 (bif (decide (((4096:Int):Int)<(a1.length:Int))) then(some ((false,(default:Hw)),(4:Int))) else((As a1).bind fun x1=>(some ((true,(⟨x1,([]:List Aa)⟩:Hw)),(0:Int)))))
theorem Ch(a1:List Int)(r:((Bool×Hw)×Int))(h:B7 a1=some r):Spec Try.prog 10 [(AV.list 1 eU8 0 a1 .none)] [] (.tuple [(bif r.1.1 then((.ptr 20000 0):AV) else .nilp),(.int .i64 r.2)]) (bif r.1.1 then[(20000,.row 63 [(.vsl 21000 r.1.2.bytes.length),(AV.list 3 Am default r.1.2.trace (.own 21001))]),(21000,.arr 1 5 r.1.2.bytes.length (fun i=>eU8 (r.1.2.bytes.getD i 0))),(21001,.tok 3 49 r.1.2.trace.length)] else[]):=by
 refine Bf mix Try.func10 (fun Γ hq=>?_);unfold B7 at h;refine Cc hq [0] [] ?_;refine Cc hq [0,6] [] ?_;refine gC h (fun h=>?_) (fun h=>?_)
 ·refine Cc hq [2,3] [] ?_;cases h;exact Gv []
 ·obtain⟨x1,hx1,h⟩:=bind_some h;refine gR hq [2,3] [8,10] [(9,(.agg (Q6 x1)))] [⟨[],[(20000,8)],(.vsl 20000 x1.length),[(Z2 20000 x1)],[]⟩] (ci (B4 a1 x1 hx1) (c1 (show(AVle (.agg [(.vsl 8 x1.length),(.slice 0 0 (fun _=>[]) .exact)]) (.agg (Q6 x1))) from(AVle.agg (.cons (AVle.refl _) (.cons Qp .nil)))))) ?_;refine T2 (Q7 x1) ?_;cases h;exact gK (e:=.ret) (Ou [(10,20000),(8,21000),(6102001,21001)] (show Le Γ _ (Q5 x1) from Le.trans (J8 (st':=(Q7 x1)) [2,3] [8,10] hq) (Le.trans (Ms (r:=10) (j:=1) (nm:=6102001) (sz':=3) (fun i=>Am (([]:List Aa).getD i default)) 49 rfl rfl (nl rfl) rfl (.inl ⟨rfl,rfl⟩) (fun h_=>absurd h_ (by decide))) (J8 (st':=(Q5 x1)) [2,3] [8,10,6102001] hq))))
def B8(a4:Int):Option Int:=
 (Option.bind (α:=Bool) (bif (a4==8) then(some (a4==8)) else(bif (a4==16) then(some (a4==16)) else(bif (a4==32) then(some (a4==32)) else(some (a4==64))))) (fun x2=>(bif x2 then(some (Gi (Int.tdiv a4 (8:Int)))) else(some (0:Int)))))
theorem Fi(a4:Int)(r:Int)(h:B8 a4=some r):Spec Try.prog 25 [(.int .i64 a4)] [] (.int .i64 r) []:=by
 refine Bf mix Try.func25 (fun Γ hq=>?_);unfold B8 at h;refine Cc hq [0] [] ?_;refine Cc hq [0,3] [] ?_;obtain⟨x2,hx2,h⟩:=bind_some h;refine gJ hx2 (fun b1=>aG Γ .normal (⟨[(0,(Gu a4)),(4,(.bool b1))],[],[]⟩:St)) ?_ ?_
 ·clear h hx2;intro y h;refine Cc hq [0,3,4] [] ?_;refine gC h (fun h=>?_) (fun h=>?_)
  ·cases h;exact gK (P7 (J8 [0,4] [] hq))
  ·refine Cc hq [0,3,4] [] ?_;refine gC h (fun h=>?_) (fun h=>?_)
   ·cases h;exact gK (P7 (J8 [0,4] [] hq))
   ·refine Cc hq [0,3,4] [] ?_;refine gC h (fun h=>?_) (fun h=>?_)
    ·cases h;exact gK (P7 (J8 [0,4] [] hq))
    ·refine Cc hq [0,4] [] ?_;cases h;exact gK (P7 Ss)
 ·clear hx2;refine gA ?_;refine gC h (fun h=>?_) (fun h=>?_)
  ·refine gR hq [2] [] [] [] (c1 (show((8:Int)≠0) from(by decide))) ?_;cases h;exact Gv []
  ·refine Cc hq [2] [] ?_;cases h;exact Gv []
def Q8(a3:Int):=((bif false then true else(decide (a3<1)))==false)
def Ba(a5:Int)(a3:Int)(a0:List Int)(a2:List Aa):Option (Bool×List Aa×List Int):=
 (bif (bif (bif false then true else(decide (a3<1))) then true else(decide (((a0.length:Int):Int)<a3))) then(some (false,a2,a0)) else(some ((decide (a5≤(C3 (Gi ((a0.length:Int)-a3))))),a2,a0)))
theorem Bx(a5:Int)(a3:Int)(a0:List Int)(a2:List Aa)(r:(Bool×List Aa×List Int))(h:Ba a5 a3 a0 a2=some r):Spec Try.prog 16 [(.ptr 30000 0),(.int .u64 a5),(.int .i64 a3)] [(30000,.row 63 [(.vsl 35000 a0.length),(AV.list 3 Am default a2 (.own 37001))]),(37001,.tok 3 49 a2.length),(35000,.arr 1 5 a0.length (fun i=>eU8 (a0.getD i 0)))] (.bool r.1) [(30000,.row 63 [(.vsl 35000 r.2.2.length),(AV.list 3 Am default r.2.1 (.own 37001))]),(37001,.tok 3 49 r.2.1.length),(35000,.arr 1 5 r.2.2.length (fun i=>eU8 (r.2.2.getD i 0)))]:=by
 refine Bf mix Try.func16 (fun Γ hq=>?_);unfold Ba at h;refine Cc hq [0,1,2] [30000,35000,37001] ?_;refine gR hq [0,1,2,21] [30000,35000,37001] [] [] (ci (gI (false==false)) (ci (Uq false) (ci (gI (Q8 a3)) (ci (gI (Q8 a3)) (ci (gI (Q8 a3)) (ci (gI (Q8 a3)) (ci (gI (Q8 a3)) (ci (gI (Q8 a3)) (c1 (Uq (bif false then true else(decide (a3<1))))))))))))) ?_;refine gC h (fun h=>?_) (fun h=>?_)
 ·refine Cc hq [6] [30000,35000,37001] ?_;cases h;exact Gv [(30000,30000),(37001,37001),(35000,35000)]
 ·refine Cc hq [6] [30000,35000,37001] ?_;cases h;exact Gv [(30000,30000),(37001,37001),(35000,35000)]
def A1(a9:Int):(Int×Int×Int×List Aa×List Int)→Option (LR (Int×Int×Int×List Aa×List Int) (List Aa×List Int)):=
 fun((i1,i2,i3,l4,l5):(Int×Int×Int×List Aa×List Int))=>(bif (decide (i3<a9)) then(Do (Ey i1 l5.length) (Do (l4.length+([(⟨true,i1,(Td i2)⟩:Aa)]:List Aa).length≤room) (some (.next ((C3 (i1+1)),(R3 .u64 i2 (8:Int)),(Gi (i3+1)),(l4++([(⟨true,i1,(Td i2)⟩:Aa)]:List Aa)),(l5.set i1.toNat (Td i2))))))) else(some (.done (l4,l5))))
def Q9(i1:Int)(i2:Int):=([(⟨true,i1,(Td i2)⟩:Aa)]:List Aa)
def Bq(a5:Int)(a9:Int)(aC:Int)(a0:List Int)(a2:List Aa):Option (List Aa×List Int):=
 ((Cn (A1 a9) (a5,aC,(0:Int),a2,a0)).bind (fun(l6,l7)=>(some (l6,l7))))
theorem F8(a5:Int)(a9:Int)(aC:Int)(a0:List Int)(a2:List Aa)(r:(List Aa×List Int))(h:Bq a5 a9 aC a0 a2=some r):Spec Try.prog 26 [(.ptr 30000 0),(.int .u64 a5),(.int .i64 a9),(.int .u64 aC)] [(30000,.row 63 [(.vsl 35000 a0.length),(AV.list 3 Am default a2 (.own 37001))]),(37001,.tok 3 49 a2.length),(35000,.arr 1 5 a0.length (fun i=>eU8 (a0.getD i 0)))] (.tuple []) [(30000,.row 63 [(.vsl 35000 r.2.length),(AV.list 3 Am default r.1 (.own 37001))]),(37001,.tok 3 49 r.1.length),(35000,.arr 1 5 r.2.length (fun i=>eU8 (r.2.getD i 0)))]:=by
 refine Bf mix Try.func26 (fun Γ hq=>?_);unfold Bq at h;refine Cc hq [0,1,3,9,10] [30000,35000,37001] ?_;obtain⟨x10,hx10,h⟩:=bind_some h;refine gL hq hx10 [0,1,3,9,10] [30000,35000,37001] (fun u (i1,i2,i3,l4,l5)=>(Sc u [(1,(.int .u64 i1)),(3,(.int .u64 i2)),(10,(Gu i3))] (Z4 30000 35000 l5.length l4 37001 l5 l4.length))) (fun u (l6,l7)=>aG Γ (.exit 0) (⟨[],(Z4 30000 35000 l7.length l6 37001 l7 l6.length),[]⟩:St)) ?_ ?_
 ·rintro⟨i1,i2,i3,l4,l5⟩ y h;unfold A1 at h;refine Cc hq [0,1,3,9,10,11] [30000,35000,37001] ?_;refine gC h (fun h=>?_) (fun h=>?_)
  ·refine Cc hq [0,1,3,8,9,10] [30000,35000,37001] ?_;obtain⟨hc8,h⟩:=Ag h;refine gR hq [0,1,3,8,9,10] [30000,35000,37001] [] [] (ci hc8 (c1 (Eq.refl l5.length))) ?_;refine Vl (Le.trans (V5 35000 (show ∀ k_,k_<l5.length→AVleL ((fun i_=>AV.eraseAll (fun n_=>Cj n_ [30000,35000,37001]) ((Js (fun i=>eU8 (l5.getD i 0)) i1.toNat 0 [(.int .u8 (Td i2))]) i_)) k_) ((fun i=>eU8 ((l5.set i1.toNat (Td i2)).getD i 0)) k_) from(Kx (List.length_set ..).symm (fun k_ hk_=>(congrArg (AV.eraseAll (fun n_=>Cj n_ [30000,35000,37001])) ((M8 (fun _ _=>rfl) (Ow hc8) rfl) k_ hk_)).trans rfl)))) (V6 (fun(k_:Nat) u=>(Sc u [] [(Pd k_ l4),(35000,.arr 1 5 k_ (fun i=>eU8 ((l5.set i1.toNat (Td i2)).getD i 0)))])) (show l5.length=(l5.set i1.toNat (Td i2)).length from(List.length_set ..).symm))) ?_;obtain⟨hc9,h⟩:=Ag h;refine gR hq [0,1,3,9,10] [30000,35000,37001] (Wm (Q9 i1 i2) l4) [] (ci (Fw 3 Am (default:Aa) (Q9 i1 i2)) (ci (Eq.refl l4.length) (ci hc9 (ci (Ll 3 37001 Am (default:Aa) l4 (Q9 i1 i2)) (c1 (Lr l4 (Q9 i1 i2))))))) ?_;refine gR hq [0,1,3,9,10] [30000,35000,37001] [] [] (c1 (show(0≤(8:Int)) from(by decide))) ?_;refine Cc hq [0,1,3,9,10] [30000,35000,37001] ?_;refine Cc hq [0,1,3,9,10] [30000,35000,37001] ?_;cases h;exact gN Ss
  ·cases h;exact gO (P7 (J8 [] [30000,35000,37001] hq))
 ·clear hx10;rcases x10 with⟨l6,l7⟩;refine V4 (fun st' hl11=>?_);cases h;exact gK (e:=.normal) (Ou [(30000,30000),(37001,37001),(35000,35000)] hl11)
def A4(aA:List Int)(x3:Int):(Int×Int×List Aa×List Int)→Option (LR (Int×Int×List Aa×List Int) ((List Aa×List Int) ⊕ (List Aa×List Int))):=
 fun((i4,i5,l6,l7):(Int×Int×List Aa×List Int))=>(bif (decide (i5<(aA.length:Int))) then(Do (Ey i5 aA.length) ((Ba i4 x3 l7 l6).bind fun x13=>(Do (l7.length=x13.2.2.length) (bif (!x13.1) then(some (.done (.inr (x13.2.1,x13.2.2)))) else((Bq i4 x3 (aA.getD i5.toNat 0) x13.2.2 x13.2.1).bind fun x15=>(Do (x13.2.2.length=x15.2.length) (some (.next ((C3 (i4+(C3 x3))),(Gi (i5+1)),x15.1,x15.2))))))))) else(some (.done (.inl (l6,l7)))))
def Dt :(List Aa×List Int)→Option (LR (List Aa×List Int) (Int×List Aa×List Int)):=
 fun(s_:(List Aa×List Int))=>match s_ with|(l1,l2)=>(some (.done ((8:Int),l1,l2)))
def Ih(Γ:Cz)(a5:Int)(a4:Int)(aA:List Int)(a0:List Int)(a2:List Aa)(r:(Int×List Aa×List Int)):Exit→St→Prop:=fK Try.prog Γ Try.f11.results.toList (Z3 a0.length a2 a2.length a0) (Gu r.1) (Z3 r.2.2.length r.2.1 r.2.1.length r.2.2)
def B3(a5:Int)(a4:Int)(aA:List Int)(a0:List Int)(a2:List Aa):Option (Int×List Aa×List Int):=
 ((Ec (S:=(List Aa×List Int)) (X:=(Int×List Aa×List Int)) ((B8 a4).bind fun x3=>(bif (bif (x3==0) then true else(decide (((16:Int):Int)<(aA.length:Int)))) then(some (.done ((1:Int),a2,a0))) else((Cn (A4 aA x3) (a5,(0:Int),a2,a0)).bind (fun x17=>(match x17 with|(.inl (l8,l9))=>(some (.done ((0:Int),l8,l9)))|(.inr (l10,l11))=>(some (.next (l10,l11)))))))) Dt).bind (fun x20=>(some x20)))
theorem Hq(a5:Int)(a4:Int)(aA:List Int)(a0:List Int)(a2:List Aa)(r:(Int×List Aa×List Int))(h:B3 a5 a4 aA a0 a2=some r):Spec Try.prog 11 [(.ptr 30000 0),(.int .u64 a5),(.int .i64 a4),(AV.list 1 Df 0 aA .none)] [(30000,.row 63 [(.vsl 35000 a0.length),(AV.list 3 Am default a2 (.own 37001))]),(37001,.tok 3 49 a2.length),(35000,.arr 1 5 a0.length (fun i=>eU8 (a0.getD i 0)))] (.int .i64 r.1) [(30000,.row 63 [(.vsl 35000 r.2.2.length),(AV.list 3 Am default r.2.1 (.own 37001))]),(37001,.tok 3 49 r.2.1.length),(35000,.arr 1 5 r.2.2.length (fun i=>eU8 (r.2.2.getD i 0)))]:=by
 refine Bf mix Try.func11 (fun Γ hq=>?_);unfold B3 at h;refine Cc hq [0,1,2,3] [30000,35000,37001] ?_;obtain⟨x20,hx20,h⟩:=bind_some h;refine gS hx20 (fun(s_:(List Aa×List Int))=>match s_ with|(l1,l2)=>0) (fun(s_:(List Aa×List Int))=>match s_ with|(l1,l2)=>(⟨[],(Z4 30000 35000 l2.length l1 37001 l2 l1.length),[]⟩:St)) (fun r_=>aR (Ih Γ a5 a4 aA a0 a2 r_)) ?_ ?_ ?_
 ·clear h hx20;intro y h;obtain⟨x3,hx3,h⟩:=bind_some h;refine gR hq [0,1,3,9] [30000,35000,37001] [] [⟨[],[],(Gu x3),[],[]⟩] (c1 (Fi a4 x3 hx3)) ?_;refine gR hq [0,1,3,9,20] [30000,35000,37001] [] [] (ci (gI ((x3==0)==false)) (ci (gI ((x3==0)==false)) (c1 (Uq (x3==0))))) ?_;refine gC h (fun h=>?_) (fun h=>?_)
  ·refine Cc hq [8] [30000,35000,37001] ?_;cases h;exact Ur (Tn (Ou [(30000,30000),(37001,37001),(35000,35000)] (Le.refl _ _)))
  ·refine Cc hq [0,1,9,21,22,23] [30000,35000,37001] ?_;obtain⟨x17,hx17,h⟩:=bind_some h;refine gL hq hx17 [0,1,9,21,22,23] [30000,35000,37001] (fun u (i4,i5,l6,l7)=>(Sc u [(1,(.int .u64 i4)),(23,(Gu i5))] (Z4 30000 35000 l7.length l6 37001 l7 l6.length))) (fun u x_=>match x_ with|(.inl (l8,l9))=>aG Γ (.exit 0) (⟨[],(Z4 30000 35000 l9.length l8 37001 l9 l8.length),[]⟩:St)|(.inr (l10,l11))=>aG Γ (.goto 0) (⟨[],(Z4 30000 35000 l11.length l10 37001 l11 l10.length),[]⟩:St)) ?_ ?_
   ·rintro⟨i4,i5,l6,l7⟩ y h;unfold A4 at h;refine Cc hq [0,1,9,21,22,23,24] [30000,35000,37001] ?_;refine gC h (fun h=>?_) (fun h=>?_)
    ·obtain⟨hc12,h⟩:=Ag h;refine gR hq [0,1,9,11,21,22,23] [30000,35000,37001] [] [] (c1 hc12) ?_;obtain⟨x13,hx13,h⟩:=bind_some h;obtain⟨hc14,h⟩:=Ag h;refine gR hq [0,1,9,11,21,22,23,31] [30000,35000,37001] [] [⟨[(30000,30000),(37001,37001),(35000,35000)],[],(.bool x13.1),(Z3 x13.2.2.length x13.2.1 x13.2.1.length x13.2.2),[]⟩] (c1 (Bx i4 x3 l7 l6 x13 hx13)) ?_;refine gC h (fun h=>?_) (fun h=>?_)
     ·cases h;exact gO (P7 (J8 [] [30000,35000,37001] hq))
     ·obtain⟨x15,hx15,h⟩:=bind_some h;obtain⟨hc16,h⟩:=Ag h;refine gR hq [0,1,9,21,22,23] [30000,35000,37001] [] [⟨[(30000,30000),(37001,37001),(35000,35000)],[],(.tuple []),(Z3 x15.2.length x15.1 x15.1.length x15.2),[]⟩] (c1 (F8 i4 x3 (aA.getD i5.toNat 0) x13.2.2 x13.2.1 x15 hx15)) ?_;refine Cc hq [0,1,9,21,22,23] [30000,35000,37001] ?_;refine Cc hq [0,1,9,21,22,23] [30000,35000,37001] ?_;cases h;exact gN Ss
    ·cases h;exact gO (P7 (J8 [] [30000,35000,37001] hq))
   ·clear hx17;rcases x17 with⟨l8,l9⟩|⟨l10,l11⟩
    ·refine gA ?_;refine Cc hq [8] [30000,35000,37001] ?_;cases h;exact Ur (Tn (Ou [(30000,30000),(37001,37001),(35000,35000)] (Le.refl _ _)))
    ·refine V4 (fun st' hl19=>?_);cases h;exact Wo (Le.trans hl19 Ss)
 ·clear h hx20;rintro⟨l1,l2⟩ y h;unfold Dt at h;refine Cc hq [8] [30000,35000,37001] ?_;cases h;exact Ur (Tn (Ou [(30000,30000),(37001,37001),(35000,35000)] (Le.refl _ _)))
 ·clear hx20;refine Vk (fun st' hk=>?_);obtain rfl:=OI h;exact gK hk
def A8(a9:Int)(a0:List Int):(Int×Int×Int×List Aa)→Option (LR (Int×Int×Int×List Aa) (Int×List Aa)):=
 fun((i1,i2,i3,l4):(Int×Int×Int×List Aa))=>(bif (decide (i3<a9)) then(Do (Ey i1 a0.length) (Do (l4.length+([(⟨false,i1,(a0.getD i1.toNat 0)⟩:Aa)]:List Aa).length≤room) (Do (0≤(Gi ((8:Int)*i3))) (some (.next ((C3 (i1+1)),(E0 .or .u64 i2 (Ht .u64 (C3 (a0.getD i1.toNat 0)) (Gi ((8:Int)*i3)))),(Gi (i3+1)),(l4++([(⟨false,i1,(a0.getD i1.toNat 0)⟩:Aa)]:List Aa)))))))) else(some (.done (i2,l4))))
def Vh(i1:Int)(a0:List Int):=([(⟨false,i1,(a0.getD i1.toNat 0)⟩:Aa)]:List Aa)
def Bu(a5:Int)(a9:Int)(a0:List Int)(a2:List Aa):Option (Int×List Aa×List Int):=
 ((Cn (A8 a9 a0) (a5,(0:Int),(0:Int),a2)).bind (fun(i5,l6)=>(some (i5,l6,a0))))
theorem Gq(a5:Int)(a9:Int)(a0:List Int)(a2:List Aa)(r:(Int×List Aa×List Int))(h:Bu a5 a9 a0 a2=some r):Spec Try.prog 28 [(.ptr 30000 0),(.int .u64 a5),(.int .i64 a9)] [(30000,.row 63 [(.vsl 35000 a0.length),(AV.list 3 Am default a2 (.own 37001))]),(37001,.tok 3 49 a2.length),(35000,.arr 1 5 a0.length (fun i=>eU8 (a0.getD i 0)))] (.int .u64 r.1) [(30000,.row 63 [(.vsl 35000 r.2.2.length),(AV.list 3 Am default r.2.1 (.own 37001))]),(37001,.tok 3 49 r.2.1.length),(35000,.arr 1 5 r.2.2.length (fun i=>eU8 (r.2.2.getD i 0)))]:=by
 refine Bf mix Try.func28 (fun Γ hq=>?_);unfold Bu at h;refine Cc hq [0,1,2] [30000,35000,37001] ?_;refine Cc hq [0,1,2,7] [30000,35000,37001] ?_;refine Cc hq [0,1,7,10,11] [30000,35000,37001] ?_;obtain⟨x10,hx10,h⟩:=bind_some h;refine gL hq hx10 [0,1,7,10,11] [30000,35000,37001] (fun u (i1,i2,i3,l4)=>(Sc u [(1,(.int .u64 i1)),(7,(.int .u64 i2)),(11,(Gu i3))] [(Pd a0.length l4),(37001,.tok 3 49 l4.length)])) (fun u (i5,l6)=>aG Γ (.exit 0) (Wt [7] [30000,35000,37001] u [(7,(.int .u64 i5))] [(Pd a0.length l6),(37001,.tok 3 49 l6.length)])) ?_ ?_
 ·rintro⟨i1,i2,i3,l4⟩ y h;unfold A8 at h;refine Cc hq [0,1,7,10,11,12] [30000,35000,37001] ?_;refine gC h (fun h=>?_) (fun h=>?_)
  ·refine Cc hq [0,1,7,8,10,11] [30000,35000,37001] ?_;obtain⟨hc7,h⟩:=Ag h;refine gR hq [0,1,7,8,9,10,11] [30000,35000,37001] [] [] (ci hc7 (c1 (Eq.refl a0.length))) ?_;obtain⟨hc8,h⟩:=Ag h;refine gR hq [0,1,7,8,9,10,11] [30000,35000,37001] (Wm (Vh i1 a0) l4) [] (ci (Fw 3 Am (default:Aa) (Vh i1 a0)) (ci (Eq.refl l4.length) (ci hc8 (ci (Ll 3 37001 Am (default:Aa) l4 (Vh i1 a0)) (c1 (Lr l4 (Vh i1 a0))))))) ?_;obtain⟨hc9,h⟩:=Ag h;refine gR hq [0,1,7,10,11] [30000,35000,37001] [] [] (c1 hc9) ?_;refine Cc hq [0,1,7,10,11] [30000,35000,37001] ?_;refine Cc hq [0,1,7,10,11] [30000,35000,37001] ?_;cases h;exact gN Ss
  ·cases h;exact gO (P7 (J8 [7] [30000,35000,37001] hq))
 ·clear hx10;rcases x10 with⟨i5,l6⟩;refine gA ?_;refine Cc hq [6] [30000,35000,37001] ?_;cases h;exact Gv [(30000,30000),(37001,37001),(35000,35000)]
def A9(a3:Int)(x3:Int):(Int×Int×List Int×List Aa×List Int)→Option (LR (Int×Int×List Int×List Aa×List Int) ((List Int×List Aa×List Int) ⊕ (List Aa×List Int))):=
 fun((i5,i6,l7,l8,l9):(Int×Int×List Int×List Aa×List Int))=>(bif (decide (i6<((List.replicate a3.toNat (0:Int)).length:Int))) then((Ba i5 x3 l9 l8).bind fun x15=>(Do (l9.length=x15.2.2.length) (bif (!x15.1) then(some (.done (.inr (x15.2.1,x15.2.2)))) else((Bu i5 x3 x15.2.2 x15.2.1).bind fun x17=>(Do (x15.2.2.length=x17.2.2.length) (Do (Ey i6 l7.length) (some (.next ((C3 (i5+(C3 x3))),(Gi (i6+1)),(l7.set i6.toNat x17.1),x17.2.1,x17.2.2))))))))) else(some (.done (.inl (l7,l8,l9)))))
def D5 :(List Aa×List Int)→Option (LR (List Aa×List Int) (List Int×Int×List Aa×List Int)):=
 fun(s_:(List Aa×List Int))=>match s_ with|(l1,l2)=>(some (.done (([]:List Int),(8:Int),l1,l2)))
def It(Γ:Cz)(a5:Int)(a4:Int)(a3:Int)(a0:List Int)(a2:List Aa)(r:(List Int×Int×List Aa×List Int)):Exit→St→Prop:=fK Try.prog Γ Try.f13.results.toList (Z3 a0.length a2 a2.length a0) (.tuple [(AV.list 1 Df 0 r.1 (.own 20000)),(Gu r.2.1)]) [(Pd r.2.2.2.length r.2.2.1),(37001,.tok 3 49 r.2.2.1.length),(Z2 35000 r.2.2.2),(20000,.tok 1 33 r.1.length)]
def Ue:AV:=(AV.list 1 Df 0 ([]:List Int) .exact)
def Vp(l2:List Int)(l1:List Aa):List (Nat×Own):=(Z4 30000 35000 l2.length l1 37001 l2 l1.length)
def Wc(l10:List Int)(l12:List Int)(l11:List Aa):List (Nat×Own):=[(26,.arr 1 33 l10.length (fun i=>Df (l10.getD i 0))),(Pd l12.length l11),(Z2 35000 l12),(37001,.tok 3 49 l11.length)]
def Wb(a0:List Int)(a2:List Aa):=(⟨[(8,Ue),(9,(.int .i64 (1:Int)))],(Z4 30000 35000 a0.length a2 37001 a0 a2.length),[]⟩:St)
def Wa(l2:List Int)(l1:List Aa):=(⟨[(8,(AV.list 1 Df 0 ([]:List Int) (.own 6008))),(9,(.int .i64 (8:Int)))],[(6008,.tok 1 33 (([]:List Int).length)),(Pd l2.length l1),(Z2 35000 l2),(37001,.tok 3 49 l1.length)],[]⟩:St)
def V9(a0:List Int)(a2:List Aa):=(⟨[(8,(AV.list 1 Df 0 ([]:List Int) (.own 6008))),(9,(.int .i64 (1:Int)))],[(6008,.tok 1 33 (([]:List Int).length)),(Pd a0.length a2),(Z2 35000 a0),(37001,.tok 3 49 a2.length)],[]⟩:St)
def Bh(a5:Int)(a4:Int)(a3:Int)(a0:List Int)(a2:List Aa):Option (List Int×Int×List Aa×List Int):=
 ((Ec (S:=(List Aa×List Int)) (X:=(List Int×Int×List Aa×List Int)) ((B8 a4).bind fun x3=>(bif (bif (bif (x3==0) then true else(decide (a3<0))) then true else(decide (((16:Int):Int)<a3))) then(some (.done (([]:List Int),(1:Int),a2,a0))) else(Do (0≤a3∧a3≤a3∧a3≤(room:Int)) ((Cn (A9 a3 x3) (a5,(0:Int),(List.replicate a3.toNat (0:Int)),a2,a0)).bind (fun x20=>(match x20 with|(.inl (l10,l11,l12))=>(some (.done (l10,(0:Int),l11,l12)))|(.inr (l13,l14))=>(some (.next (l13,l14))))))))) D5).bind (fun x23=>(some x23)))
theorem Cq(a5:Int)(a4:Int)(a3:Int)(a0:List Int)(a2:List Aa)(r:(List Int×Int×List Aa×List Int))(h:Bh a5 a4 a3 a0 a2=some r):Spec Try.prog 13 [(.ptr 30000 0),(.int .u64 a5),(.int .i64 a4),(.int .i64 a3)] [(30000,.row 63 [(.vsl 35000 a0.length),(AV.list 3 Am default a2 (.own 37001))]),(37001,.tok 3 49 a2.length),(35000,.arr 1 5 a0.length (fun i=>eU8 (a0.getD i 0)))] (.tuple [(AV.list 1 Df 0 r.1 (.own 20000)),(.int .i64 r.2.1)]) [(30000,.row 63 [(.vsl 35000 r.2.2.2.length),(AV.list 3 Am default r.2.2.1 (.own 37001))]),(37001,.tok 3 49 r.2.2.1.length),(35000,.arr 1 5 r.2.2.2.length (fun i=>eU8 (r.2.2.2.getD i 0))),(20000,.tok 1 33 r.1.length)]:=by
 refine Bf mix Try.func13 (fun Γ hq=>?_);have hΓ:=hq.own;unfold Bh at h;refine gR hq [0,1,2,3] [30000,35000,37001] [(8,Ue)] [] (c1 (Dj 1 Df (0:Int))) ?_;obtain⟨x23,hx23,h⟩:=bind_some h;refine gS hx23 (fun(s_:(List Aa×List Int))=>match s_ with|(l1,l2)=>0) (fun(s_:(List Aa×List Int))=>match s_ with|(l1,l2)=>(⟨[],(Vp l2 l1),[]⟩:St)) (fun r_=>aR (It Γ a5 a4 a3 a0 a2 r_)) ?_ ?_ ?_
 ·clear h hx23;intro y h;obtain⟨x3,hx3,h⟩:=bind_some h;refine gR hq [0,1,3,10] [30000,35000,37001] [] [⟨[],[],(Gu x3),[],[]⟩] (c1 (Fi a4 x3 hx3)) ?_;refine gR hq [0,1,3,10,24] [30000,35000,37001] [] [] (ci (gI ((x3==0)==false)) (ci (Uq (x3==0)) (ci (gI ((bif (x3==0) then true else(decide (a3<0)))==false)) (c1 (Uq (bif (x3==0) then true else(decide (a3<0)))))))) ?_;refine gC h (fun h=>?_) (fun h=>?_)
  ·refine gR hq [8,9] [30000,35000,37001] [(8,Ue)] [] (c1 (Dj 1 Df (0:Int))) ?_;refine T2 (Wb a0 a2) ?_;cases h;exact Ur (Tn (Ou [(30000,30000),(37001,37001),(35000,35000),(6008,20000)] (show Le Γ _ (V9 a0 a2) from Le.trans (J8 (st':=(Wb a0 a2)) [8,9] [30000,35000,37001] hq) (Le.trans (N1 (t:=8) (nm:=6008) (sz':=1) (fun i=>Df (([]:List Int).getD i 0)) 33 rfl rfl (.inl ⟨rfl,rfl⟩) (fun h_=>absurd h_ (by decide))) (J8 (st':=(V9 a0 a2)) [8,9] [6008,30000,35000,37001] hq)))))
  ·obtain⟨hc4,h⟩:=Ag h;refine gR hq [0,1,10,11] [26,30000,35000,37001] [] [] (c1 hc4) ?_;refine Vl (Le.trans (V5 26 (show ∀ k_,k_<(a3.toNat)→AVleL ((fun i_=>AV.eraseAll (fun n_=>Cj n_ [26,30000,35000,37001]) ((fun _=>[(.int .u64 (0:Int))]) i_)) k_) ((fun i=>Df ((List.replicate a3.toNat (0:Int)).getD i 0)) k_) from(fun k hk=>Sv (e:=Df) (d:=(0:Int)) (.cons (AVle.refl _) .nil) _ k (S6 hk)))) (V6 (fun(k_:Nat) u=>(Sc u [(11,(.vsl 26 k_))] [(26,.arr 1 33 k_ (fun i=>Df ((List.replicate a3.toNat (0:Int)).getD i 0)))])) (show a3.toNat=(List.replicate a3.toNat (0:Int)).length from(List.length_replicate ..).symm))) ?_;refine Cc hq [0,1,10,11,28,29] [26,30000,35000,37001] ?_;obtain⟨x20,hx20,h⟩:=bind_some h;refine gL hq hx20 [0,1,10,11,28,29] [26,30000,35000,37001] (fun u (i5,i6,l7,l8,l9)=>(Sc u [(1,(.int .u64 i5)),(11,(.vsl 26 l7.length)),(29,(Gu i6))] [(26,.arr 1 33 l7.length (fun i=>Df (l7.getD i 0))),(Pd l9.length l8),(Z2 35000 l9),(37001,.tok 3 49 l8.length)])) (fun u x_=>match x_ with|(.inl (l10,l11,l12))=>aG Γ (.exit 0) (⟨[(11,(.vsl 26 l10.length))],(Wc l10 l12 l11),[]⟩:St)|(.inr (l13,l14))=>aG Γ (.goto 0) (⟨[],(Z4 30000 35000 l14.length l13 37001 l14 l13.length),[]⟩:St)) ?_ ?_
   ·rintro⟨i5,i6,l7,l8,l9⟩ y h;unfold A9 at h;refine Cc hq [0,1,10,11,28,29,30] [26,30000,35000,37001] ?_;refine gC h (fun h=>?_) (fun h=>?_)
    ·refine Cc hq [0,1,10,11,12,28,29] [26,30000,35000,37001] ?_;obtain⟨x15,hx15,h⟩:=bind_some h;obtain⟨hc16,h⟩:=Ag h;refine gR hq [0,1,10,11,12,28,29,36] [26,30000,35000,37001] [] [⟨[(30000,30000),(37001,37001),(35000,35000)],[],(.bool x15.1),(Z3 x15.2.2.length x15.2.1 x15.2.1.length x15.2.2),[]⟩] (c1 (Bx i5 x3 l9 l8 x15 hx15)) ?_;refine gC h (fun h=>?_) (fun h=>?_)
     ·cases h;exact gO (P7 (J8 [] [30000,35000,37001] hq))
     ·obtain⟨x17,hx17,h⟩:=bind_some h;obtain⟨hc18,h⟩:=Ag h;obtain⟨hc19,h⟩:=Ag h;refine gR hq [0,1,10,11,28,29] [26,30000,35000,37001] [] [⟨[(30000,30000),(37001,37001),(35000,35000)],[],(.int .u64 x17.1),(Z3 x17.2.2.length x17.2.1 x17.2.1.length x17.2.2),[]⟩] (ci (Gq i5 x3 x15.2.2 x15.2.1 x17 hx17) (ci hc19 (c1 (Eq.refl l7.length)))) ?_;refine Vl (Le.trans (V5 26 (show ∀ k_,k_<l7.length→AVleL ((fun i_=>AV.eraseAll (fun n_=>Cj n_ [26,30000,35000,37001]) ((Js (fun i=>Df (l7.getD i 0)) i6.toNat 0 [(.int .u64 x17.1)]) i_)) k_) ((fun i=>Df ((l7.set i6.toNat x17.1).getD i 0)) k_) from(Kx (List.length_set ..).symm (fun k_ hk_=>(congrArg (AV.eraseAll (fun n_=>Cj n_ [26,30000,35000,37001])) ((M8 (fun _ _=>rfl) (Ow hc19) rfl) k_ hk_)).trans rfl)))) (V6 (fun(k_:Nat) u=>(Sc u [(11,(.vsl 26 k_))] [(26,.arr 1 33 k_ (fun i=>Df ((l7.set i6.toNat x17.1).getD i 0)))])) (show l7.length=(l7.set i6.toNat x17.1).length from(List.length_set ..).symm))) ?_;refine Cc hq [0,1,10,11,28,29] [26,30000,35000,37001] ?_;refine Cc hq [0,1,10,11,28,29] [26,30000,35000,37001] ?_;cases h;exact gN Ss
    ·cases h;exact gO (P7 (J8 [11] [26,30000,35000,37001] hq))
   ·clear hx20;rcases x20 with⟨l10,l11,l12⟩|⟨l13,l14⟩
    ·refine gA ?_;refine Cc hq [8,9] [26,30000,35000,37001] ?_;refine T2 (⟨[(8,(.vsl 26 l10.length)),(9,(.int .i64 (0:Int)))],(Wc l10 l12 l11),[]⟩:St) ?_;cases h;exact Ur (Tn (Ou [(30000,30000),(37001,37001),(35000,35000),(26,20000)] (Le.trans (Ky (nm:=26) (sz:=1) (n:=l10.length) (e:=33) (f:=(fun i=>Df (l10.getD i 0))) (g:=(fun i=>Df (l10.getD i 0))) rfl ⟨rfl,trivial⟩ (fun _ _=>rfl) (by rw[hΓ];rfl)) (Tt (st':=⟨[(8,(AV.list 1 Df 0 l10 (.own 26))),(9,(.int .i64 (0:Int)))],[(26,.tok 1 33 l10.length),(Pd l12.length l11),(Z2 35000 l12),(37001,.tok 3 49 l11.length)],[]⟩) (by kernel_rfl)))))
    ·refine V4 (fun st' hl22=>?_);cases h;exact Wo (Le.trans hl22 Ss)
 ·clear h hx23;rintro⟨l1,l2⟩ y h;unfold D5 at h;refine gR hq [8,9] [30000,35000,37001] [(8,Ue)] [] (c1 (Dj 1 Df (0:Int))) ?_;refine T2 (⟨[(8,Ue),(9,(.int .i64 (8:Int)))],(Vp l2 l1),[]⟩:St) ?_;cases h;exact Ur (Tn (Ou [(30000,30000),(37001,37001),(35000,35000),(6008,20000)] (show Le Γ _ (Wa l2 l1) from Le.trans (J8 (st':=⟨[(8,Ue),(9,(.int .i64 (8:Int)))],(Vp l2 l1),[]⟩) [8,9] [30000,35000,37001] hq) (Le.trans (N1 (t:=8) (nm:=6008) (sz':=1) (fun i=>Df (([]:List Int).getD i 0)) 33 rfl rfl (.inl ⟨rfl,rfl⟩) (fun h_=>absurd h_ (by decide))) (J8 (st':=(Wa l2 l1)) [8,9] [6008,30000,35000,37001] hq)))))
 ·clear hx23;refine Vk (fun st' hk=>?_);obtain rfl:=OI h;exact gK hk
def Uv(x1:List Int):=(fun i=>eU8 (x1.getD i 0))
def Bj(a0:List Int)(a2:List Aa):Option (List Int×List Aa×List Int):=
 ((As a0).bind fun x1=>(some (x1,a2,a0)))
theorem Cl(a0:List Int)(a2:List Aa)(r:(List Int×List Aa×List Int))(h:Bj a0 a2=some r):Spec Try.prog 19 [(.ptr 30000 0)] [(30000,.row 63 [(.vsl 35000 a0.length),(AV.list 3 Am default a2 (.own 37001))]),(37001,.tok 3 49 a2.length),(35000,.arr 1 5 a0.length (fun i=>eU8 (a0.getD i 0)))] (AV.list 1 eU8 0 r.1 (.own 20000)) [(30000,.row 63 [(.vsl 35000 r.2.2.length),(AV.list 3 Am default r.2.1 (.own 37001))]),(37001,.tok 3 49 r.2.1.length),(35000,.arr 1 5 r.2.2.length (fun i=>eU8 (r.2.2.getD i 0))),(20000,.tok 1 5 r.1.length)]:=by
 refine Bf mix Try.func19 (fun Γ hq=>?_);have hΓ:=hq.own;unfold Bj at h;refine gR hq [0] [30000,35000,37001] [(2,(AV.list 1 eU8 0 ([]:List Int) .exact))] [] (c1 (Dj 1 eU8 (0:Int))) ?_;refine Cc hq [0,4] [30000,35000,37001] ?_;refine T3 false ?_;obtain⟨x1,hx1,h⟩:=bind_some h;refine gR hq [2] [9,30000,35000,37001] [] [⟨[],[(20000,9)],(.vsl 20000 x1.length),[(20000,.arr 1 5 x1.length (Uv x1))],[35000]⟩] (ci (B4 a0 x1 hx1) (ci (show(Kv [(20000,.arr 1 5 x1.length (Uv x1))]) from⟨(fun _ _=>rfl),trivial⟩) (c1 (Eq.refl a0.length)))) ?_;refine T2 (⟨[(2,(.vsl 9 x1.length))],[(9,.arr 1 5 x1.length (Uv x1)),(Pd a0.length a2),(Z2 35000 a0),(37001,.tok 3 49 a2.length)],[]⟩:St) ?_;cases h;exact gK (e:=.ret) (Ou [(30000,30000),(37001,37001),(35000,35000),(9,20000)] (Le.trans (Ky (nm:=9) (sz:=1) (n:=x1.length) (e:=5) (f:=(Uv x1)) (g:=(Uv x1)) rfl ⟨rfl,trivial⟩ (fun _ _=>rfl) (by rw[hΓ];rfl)) (Tt (st':=⟨[(2,(AV.list 1 eU8 0 x1 (.own 9)))],[(9,.tok 1 5 x1.length),(Pd a0.length a2),(Z2 35000 a0),(37001,.tok 3 49 a2.length)],[]⟩) (by kernel_rfl))))
def Uf:AV:=Vy
def Wd:=(⟨[(2,(AV.list 3 Am default ([]:List Aa) (.own 6002)))],[(6002,.tok 3 49 (([]:List Aa).length))],[]⟩:St)
def Au(a7:List Aa):Option (List Aa):=
 (Do (([]:List Aa).length+a7.length≤room) (some (([]:List Aa)++a7)))
theorem Co(a7:List Aa)(r:List Aa)(h:Au a7=some r):Spec Try.prog 29 [(AV.list 3 Am default a7 .none)] [] (AV.list 3 Am default r (.own 20000)) [(20000,.tok 3 49 r.length)]:=by
 refine Bf mix Try.func29 (fun Γ hq=>?_);unfold Au at h;refine gR hq [0] [] [(2,Uf)] [] (c1 (Dj 3 Am (default:Aa))) ?_;refine Cc hq [0,4] [] ?_;refine U3 true a7.length (fun hb=>?_) (fun hb=>?_)
 ·replace h:=Rn (some ([]:List Aa)) (fun(l2:List Aa)=>(Do (([]:List Aa).length+l2.length≤room) (some (([]:List Aa)++l2)))) h (hb rfl) rfl (fun h0=>by first|exact h0|simpa [Do,room] using h0);clear hb;refine gR hq [2] [] [(2,Uf)] [] (c1 (Dj 3 Am (default:Aa))) ?_;refine T2 (⟨[(2,Uf)],[],[]⟩:St) ?_;cases h;exact gK (e:=.ret) (Ou [(6002,20000)] (show Le Γ _ Wd from Le.trans (J8 (st':=⟨[(2,Uf)],[],[]⟩) [2] [] hq) (Le.trans (N1 (t:=2) (nm:=6002) (sz':=3) (fun i=>Am (([]:List Aa).getD i default)) 49 rfl rfl (.inl ⟨rfl,rfl⟩) (fun h_=>absurd h_ (by decide))) (J8 (st':=Wd) [2] [6002] hq))))
 ·clear hb;obtain⟨hc1,h⟩:=Ag h;refine gR hq [2] [7] [(5,Uf),(7,(AV.list 3 Am default (([]:List Aa)++a7) (.own 7)))] [] (ci (show(AVle (.slice 3 0 (fun i=>([]:List (List AV)).getD i []) .exact) Uf) from Np rfl (fun i hi=>absurd hi (Nat.not_lt_zero i))) (ci hc1 (ci (show(49=He→([]:List Aa).length=0∨0<a7.length) from(fun h_=>absurd h_ (by decide))) (ci (Ll 3 7 Am (default:Aa) ([]:List Aa) a7) (c1 (Lr ([]:List Aa) a7)))))) ?_;cases h;exact Gv [(7,20000)]
def Bb(a0:List Int)(a2:List Aa):Option (List Aa×List Aa×List Int):=
 ((Au a2).bind fun x1=>(some (x1,a2,a0)))
theorem Bo(a0:List Int)(a2:List Aa)(r:(List Aa×List Aa×List Int))(h:Bb a0 a2=some r):Spec Try.prog 21 [(.ptr 30000 0)] [(30000,.row 63 [(.vsl 35000 a0.length),(AV.list 3 Am default a2 (.own 37001))]),(37001,.tok 3 49 a2.length),(35000,.arr 1 5 a0.length (fun i=>eU8 (a0.getD i 0)))] (AV.list 3 Am default r.1 (.own 20000)) [(30000,.row 63 [(.vsl 35000 r.2.2.length),(AV.list 3 Am default r.2.1 (.own 37001))]),(37001,.tok 3 49 r.2.1.length),(35000,.arr 1 5 r.2.2.length (fun i=>eU8 (r.2.2.getD i 0))),(20000,.tok 3 49 r.1.length)]:=by
 refine Bf mix Try.func21 (fun Γ hq=>?_);unfold Bb at h;refine gR hq [0] [30000,35000,37001] [(2,Vy)] [] (c1 (Dj 3 Am (default:Aa))) ?_;refine Cc hq [0,4] [30000,35000,37001] ?_;refine T3 false ?_;obtain⟨x1,hx1,h⟩:=bind_some h;refine gR hq [2] [9,30000,35000,37001] [] [⟨[],[(20000,9)],(Z8 x1 20000),[(20000,.tok 3 49 x1.length)],[]⟩] (c1 (Co a2 x1 hx1)) ?_;cases h;exact Gv [(30000,30000),(37001,37001),(35000,35000),(9,20000)]
def Ui(x5:(List Int×Int×List Aa×List Int)):=(x5.2.1==0)
def Ti(x3:(Int×List Aa×List Int)):=((x3.1==0)==true)
def Wq(x5:(List Int×Int×List Aa×List Int)):=(((x5.1.length:Int):Int)==1)
def Qc(x3:(Int×List Aa×List Int))(x9:(List Int×List Aa×List Int)):=(bif (x3.1==0) then(((x9.1.length:Int):Int)==4) else false)
def Uk(x9:(List Int×List Aa×List Int)):=(((x9.1.getD (2:Int).toNat (0:Int)):Int)==2)
def Oh(x3:(Int×List Aa×List Int))(x9:(List Int×List Aa×List Int)):=(bif (bif (Qc x3 x9) then(Uk x9) else false) then(((x9.1.getD (3:Int).toNat (0:Int)):Int)==1) else false)
def L7(x3:(Int×List Aa×List Int))(x9:(List Int×List Aa×List Int))(x5:(List Int×Int×List Aa×List Int)):=(bif (bif (Oh x3 x9) then(Ui x5) else false) then(Wq x5) else false)
def Wr(x5:(List Int×Int×List Aa×List Int)):=(((x5.1.getD (0:Int).toNat (0:Int)):Int)==16910601)
def P6(x3:(Int×List Aa×List Int))(x9:(List Int×List Aa×List Int))(x5:(List Int×Int×List Aa×List Int)):=(bif (L7 x3 x9 x5) then(Wr x5) else false)
def Th(x3:(Int×List Aa×List Int))(x9:(List Int×List Aa×List Int))(x5:(List Int×Int×List Aa×List Int)):=((bif (Oh x3 x9) then(Ui x5) else false)==true)
def Uj(x15:(List Aa×List Aa×List Int)):AV:=(Z8 x15.1 20000)
def R8:=([(9:Int),(9:Int),(9:Int),(9:Int)]:List Int)
def P5(x3:(Int×List Aa×List Int))(x9:(List Int×List Aa×List Int)):=((Qc x3 x9)==true)
def P4(x3:(Int×List Aa×List Int))(x9:(List Int×List Aa×List Int)):=((bif (Qc x3 x9) then(Uk x9) else false)==true)
def Vq(x9:(List Int×List Aa×List Int)):List (Nat×Own):=(Z3 x9.2.2.length x9.2.1 x9.2.1.length x9.2.2)
def Uw(x18:(Bool×List Aa×List Int)):List (Nat×Own):=(Z3 x18.2.2.length x18.2.1 x18.2.1.length x18.2.2)
def We(x15:(List Aa×List Aa×List Int)):List (Nat×Own):=(Z3 x15.2.2.length x15.2.1 x15.2.1.length x15.2.2)
def Wf(x21:(Bool×List Aa×List Int)):List (Nat×Own):=(Z3 x21.2.2.length x21.2.1 x21.2.1.length x21.2.2)
def Uh(x1:((Bool×Hw)×Int)):List (Nat×Own):=(Z4 20000 21000 x1.1.2.bytes.length x1.1.2.trace 21001 x1.1.2.bytes x1.1.2.trace.length)
def Ug(x15:(List Aa×List Aa×List Int)):List (Nat×Own):=(Z5 x15.2.2.length x15.2.1 x15.2.1.length x15.2.2 x15.1.length)
def m_locksteplaw12_awake :Option Bool:=
 ((B7 ([(9:Int),(9:Int),(9:Int),(9:Int)]:List Int)).bind fun x1=>(bif x1.1.1 then(bif (x1.2 !=0) then(some false) else((B3 (2:Int) (16:Int) ([(258:Int)]:List Int) x1.1.2.bytes x1.1.2.trace).bind fun x3=>(Do (x1.1.2.bytes.length=x3.2.2.length) ((Bh (0:Int) (32:Int) (1:Int) x3.2.2 x3.2.1).bind fun x5=>(Do (x3.2.2.length=x5.2.2.2.length) ((Bh (1:Int) (32:Int) (1:Int) x5.2.2.2 x5.2.2.1).bind fun x7=>(Do (x5.2.2.2.length=x7.2.2.2.length) ((Bj x7.2.2.2 x7.2.2.1).bind fun x9=>(Do (x7.2.2.2.length=x9.2.2.length) (Do (((bif (x3.1==0) then(((x9.1.length:Int):Int)==4) else false)==true)=true→(Ey (2:Int) x9.1.length)) (Do (((bif (bif (x3.1==0) then(((x9.1.length:Int):Int)==4) else false) then(((x9.1.getD (2:Int).toNat (0:Int)):Int)==2) else false)==true)=true→(Ey (3:Int) x9.1.length)) (Do (((bif (bif (bif (bif (bif (x3.1==0) then(((x9.1.length:Int):Int)==4) else false) then(((x9.1.getD (2:Int).toNat (0:Int)):Int)==2) else false) then(((x9.1.getD (3:Int).toNat (0:Int)):Int)==1) else false) then(x5.2.1==0) else false) then(((x5.1.length:Int):Int)==1) else false)==true)=true→(Ey (0:Int) x5.1.length)) (bif (bif (bif (bif (bif (bif (bif (bif (x3.1==0) then(((x9.1.length:Int):Int)==4) else false) then(((x9.1.getD (2:Int).toNat (0:Int)):Int)==2) else false) then(((x9.1.getD (3:Int).toNat (0:Int)):Int)==1) else false) then(x5.2.1==0) else false) then(((x5.1.length:Int):Int)==1) else false) then(((x5.1.getD (0:Int).toNat (0:Int)):Int)==16910601) else false) then(x7.2.1==8) else false) then((Bb x9.2.2 x9.2.1).bind fun x15=>(Do (x9.2.2.length=x15.2.2.length) (bif (((x15.1.length:Int):Int)==6) then((Ba (3:Int) (1:Int) x15.2.2 x15.2.1).bind fun x18=>(Do (x15.2.2.length=x18.2.2.length) (bif x18.1 then((Ba (3:Int) (2:Int) x18.2.2 x18.2.1).bind fun x21=>(Do (x18.2.2.length=x21.2.2.length) (some (!x21.1)))) else(some false)))) else(some false)))) else(some false)))))))))))))) else(some false)))
theorem Et  (r:Bool) (h:m_locksteplaw12_awake=some r):Spec Try.prog 9 [] [] (.bool r) []:=by
 refine Bf mix Try.func9 (fun Γ hq=>?_);unfold m_locksteplaw12_awake at h;refine Cc hq [] [] ?_;obtain⟨x1,hx1,h⟩:=bind_some h;refine gB h (fun hs2 h=>?_) (fun hs2 h=>?_)
 ·refine gR hq [1,2] [11,60011000,60011001] [(10,(AV.list 1 eU8 0 R8 .exact))] [⟨[],[(20000,11),(21000,60011000),(21001,60011001)],(.tuple [(bif true then((.ptr 20000 0):AV) else .nilp),(Gu x1.2)]),(bif true then(Uh x1) else[]),[]⟩] (ci (Fw 1 eU8 (0:Int) R8) (c1 (show(Spec Try.prog 10 [(AV.list 1 eU8 0 R8 .none)] [] (.tuple [(bif true then((.ptr 20000 0):AV) else .nilp),(Gu x1.2)]) (bif true then(Uh x1) else[])) from(Tp (fun b_:Bool=>Spec Try.prog 10 [(AV.list 1 eU8 0 R8 .none)] [] (.tuple [(bif b_ then((.ptr 20000 0):AV) else .nilp),(Gu x1.2)]) (bif b_ then(Uh x1) else[])) hs2 (Ch R8 x1 hx1))))) ?_;refine gR hq [1,19] [11,60011000,60011001] [] [] (ci (show((false==false)=true→(false==false)=true) from(fun _=>rfl)) (c1 (show(false=false→(false==false)=true) from(fun _=>rfl)))) ?_;refine gC h (fun h=>?_) (fun h=>?_)
  ·refine Cc hq [0] [] ?_;obtain rfl:=OI h;exact Gv []
  ·obtain⟨x3,hx3,h⟩:=bind_some h;obtain⟨hc4,h⟩:=Ag h;refine gR hq [1,3] [11,60011000,60011001] [(21,(AV.list 1 Df 0 ([(258:Int)]:List Int) .exact))] [⟨[(11,30000),(60011001,37001),(60011000,35000)],[],(Gu x3.1),(Z3 x3.2.2.length x3.2.1 x3.2.1.length x3.2.2),[]⟩] (ci (Fw 1 Df (0:Int) ([(258:Int)]:List Int)) (c1 (Hq (2:Int) (16:Int) ([(258:Int)]:List Int) x1.1.2.bytes x1.1.2.trace x3 hx3))) ?_;obtain⟨x5,hx5,h⟩:=bind_some h;obtain⟨hc6,h⟩:=Ag h;refine gR hq [1,3,4,5] [11,25,60011000,60011001] [] [(Z7 11 60011001 60011000 25 x5.1 x5.2.1 x5.2.2.2.length x5.2.2.1 x5.2.2.1.length x5.2.2.2 x5.1.length)] (c1 (Cq (0:Int) (32:Int) (1:Int) x3.2.2 x3.2.1 x5 hx5)) ?_;obtain⟨x7,hx7,h⟩:=bind_some h;obtain⟨hc8,h⟩:=Ag h;refine gR hq [1,3,4,5,7] [11,25,60011000,60011001] [] [(Z7 11 60011001 60011000 30 x7.1 x7.2.1 x7.2.2.2.length x7.2.2.1 x7.2.2.1.length x7.2.2.2 x7.1.length)] (c1 (Cq (1:Int) (32:Int) (1:Int) x5.2.2.2 x5.2.2.1 x7 hx7)) ?_;obtain⟨x9,hx9,h⟩:=bind_some h;obtain⟨hc10,h⟩:=Ag h;refine gR hq [1,3,4,5,7,8] [11,25,34,60011000,60011001] [] [⟨[(11,30000),(60011001,37001),(60011000,35000)],[(20000,34)],(AV.list 1 eU8 0 x9.1 (.own 20000)),[(Pd x9.2.2.length x9.2.1),(37001,.tok 3 49 x9.2.1.length),(Z2 35000 x9.2.2),(20000,.tok 1 5 x9.1.length)],[]⟩] (c1 (Cl x7.2.2.2 x7.2.2.1 x9 hx9)) ?_;obtain⟨hc11,h⟩:=Ag h;obtain⟨hc12,h⟩:=Ag h;obtain⟨hc13,h⟩:=Ag h;refine gB h (fun hs14 h=>?_) (fun hs14 h=>?_)
   ·obtain⟨x15,hx15,h⟩:=bind_some h;obtain⟨hc16,h⟩:=Ag h;refine gB h (fun hs17 h=>?_) (fun hs17 h=>?_)
    ·obtain⟨x18,hx18,h⟩:=bind_some h;obtain⟨hc19,h⟩:=Ag h;refine gB h (fun hs20 h=>?_) (fun hs20 h=>?_)
     ·obtain⟨x21,hx21,h⟩:=bind_some h;obtain⟨hc22,h⟩:=Ag h;refine gR hq [0] [] [(73,(.bool true)),(79,(.bool true)),(83,(.bool true))] [(Vt (Uj x15) (Ug x15)),(Vv x18.1 (Uw x18)),(Vv x21.1 (Wf x21))] (ci (gI (Ti x3)) (ci (gI (Ti x3)) (ci (Fb (x3.1==0)) (ci (gI (P5 x3 x9)) (ci hc11 (ci (gI (P5 x3 x9)) (ci (gI (P5 x3 x9)) (ci (Fb (Qc x3 x9)) (ci (gI (P4 x3 x9)) (ci hc12 (ci (gI (P4 x3 x9)) (ci (gI (P4 x3 x9)) (ci (Fb (bif (Qc x3 x9) then(Uk x9) else false)) (ci (gI ((Oh x3 x9)==true)) (ci (Fb (Oh x3 x9)) (ci (gI (Th x3 x9 x5)) (ci (gI (Th x3 x9 x5)) (ci (Fb (bif (Oh x3 x9) then(Ui x5) else false)) (ci (gI ((L7 x3 x9 x5)==true)) (ci hc13 (ci (gI ((L7 x3 x9 x5)==true)) (ci (gI ((L7 x3 x9 x5)==true)) (ci (Fb (L7 x3 x9 x5)) (ci (gI ((P6 x3 x9 x5)==true)) (ci (Fb (P6 x3 x9 x5)) (ci (show(AVle (.bool (bif (P6 x3 x9 x5) then(x7.2.1==8) else false)) (.bool true)) from(Ct hs14)) (ci (show((true==true)=true→(true==true)=true) from(fun _=>rfl)) (ci (show((true==true)=true→(Spec Try.prog 21 [(.ptr 30000 0)] (Vq x9) (Uj x15) (Ug x15))) from(fun _=>(Bo x9.2.2 x9.2.1 x15 hx15))) (ci (show((true==true)=true→(true==true)=true) from(fun _=>rfl)) (ci (show((true==true)=true→(true==true)=true) from(fun _=>rfl)) (ci (show(true=true→(true==true)=true) from(fun _=>rfl)) (ci (show(AVle (.bool (((x15.1.length:Int):Int)==6)) (.bool true)) from(Ct hs17)) (ci (show((true==true)=true→(true==true)=true) from(fun _=>rfl)) (ci (show((true==true)=true→(Spec Try.prog 16 [(.ptr 30000 0),Tl,(.int .i64 (1:Int))] (We x15) (.bool x18.1) (Uw x18))) from(fun _=>(Bx (3:Int) (1:Int) x15.2.2 x15.2.1 x18 hx18))) (ci (show(true=true→(true==true)=true) from(fun _=>rfl)) (ci (show(AVle (.bool x18.1) (.bool true)) from(Ct hs20)) (ci (show((true==true)=true→(true==true)=true) from(fun _=>rfl)) (ci (show((true==true)=true→(Spec Try.prog 16 [(.ptr 30000 0),Tl,(.int .i64 (2:Int))] (Uw x18) (.bool x21.1) (Wf x21))) from(fun _=>(Bx (3:Int) (2:Int) x18.2.2 x18.2.1 x21 hx21))) (ci (show((true==true)=true→(true==true)=true) from(fun _=>rfl)) (c1 (show(true=true→(true==true)=true) from(fun _=>rfl)))))))))))))))))))))))))))))))))))))))))) ?_;cases h;exact Gv []
     ·refine gR hq [0] [] [(73,(.bool true)),(79,(.bool true)),(83,(.bool false))] [(Vt (Uj x15) (Ug x15)),(Vv x18.1 (Uw x18)),Z6] (ci (gI (Ti x3)) (ci (gI (Ti x3)) (ci (Fb (x3.1==0)) (ci (gI (P5 x3 x9)) (ci hc11 (ci (gI (P5 x3 x9)) (ci (gI (P5 x3 x9)) (ci (Fb (Qc x3 x9)) (ci (gI (P4 x3 x9)) (ci hc12 (ci (gI (P4 x3 x9)) (ci (gI (P4 x3 x9)) (ci (Fb (bif (Qc x3 x9) then(Uk x9) else false)) (ci (gI ((Oh x3 x9)==true)) (ci (Fb (Oh x3 x9)) (ci (gI (Th x3 x9 x5)) (ci (gI (Th x3 x9 x5)) (ci (Fb (bif (Oh x3 x9) then(Ui x5) else false)) (ci (gI ((L7 x3 x9 x5)==true)) (ci hc13 (ci (gI ((L7 x3 x9 x5)==true)) (ci (gI ((L7 x3 x9 x5)==true)) (ci (Fb (L7 x3 x9 x5)) (ci (gI ((P6 x3 x9 x5)==true)) (ci (Fb (P6 x3 x9 x5)) (ci (show(AVle (.bool (bif (P6 x3 x9 x5) then(x7.2.1==8) else false)) (.bool true)) from(Ct hs14)) (ci (show((true==true)=true→(true==true)=true) from(fun _=>rfl)) (ci (show((true==true)=true→(Spec Try.prog 21 [(.ptr 30000 0)] (Vq x9) (Uj x15) (Ug x15))) from(fun _=>(Bo x9.2.2 x9.2.1 x15 hx15))) (ci (show((true==true)=true→(true==true)=true) from(fun _=>rfl)) (ci (show((true==true)=true→(true==true)=true) from(fun _=>rfl)) (ci (show(true=true→(true==true)=true) from(fun _=>rfl)) (ci (show(AVle (.bool (((x15.1.length:Int):Int)==6)) (.bool true)) from(Ct hs17)) (ci (show((true==true)=true→(true==true)=true) from(fun _=>rfl)) (ci (show((true==true)=true→(Spec Try.prog 16 [(.ptr 30000 0),Tl,(.int .i64 (1:Int))] (We x15) (.bool x18.1) (Uw x18))) from(fun _=>(Bx (3:Int) (1:Int) x15.2.2 x15.2.1 x18 hx18))) (ci (show(true=true→(true==true)=true) from(fun _=>rfl)) (ci (show(AVle (.bool x18.1) (.bool false)) from(Ct hs20)) (ci (show((false==true)=true→(false==true)=true) from C8) (ci (show((false==true)=true→(Spec Try.prog 16 [.any,Tl,(.int .i64 (2:Int))] [] (.bool false) [])) from C8) (ci (show((false==true)=true→(false==true)=true) from C8) (c1 (show(false=true→(false==true)=true) from C8))))))))))))))))))))))))))))))))))))))))) ?_;obtain rfl:=OI h;exact Gv []
    ·refine gR hq [0] [] [(73,(.bool true)),(79,(.bool false))] [(Vt (Uj x15) (Ug x15)),Z6,Z6] (ci (gI (Ti x3)) (ci (gI (Ti x3)) (ci (Fb (x3.1==0)) (ci (gI (P5 x3 x9)) (ci hc11 (ci (gI (P5 x3 x9)) (ci (gI (P5 x3 x9)) (ci (Fb (Qc x3 x9)) (ci (gI (P4 x3 x9)) (ci hc12 (ci (gI (P4 x3 x9)) (ci (gI (P4 x3 x9)) (ci (Fb (bif (Qc x3 x9) then(Uk x9) else false)) (ci (gI ((Oh x3 x9)==true)) (ci (Fb (Oh x3 x9)) (ci (gI (Th x3 x9 x5)) (ci (gI (Th x3 x9 x5)) (ci (Fb (bif (Oh x3 x9) then(Ui x5) else false)) (ci (gI ((L7 x3 x9 x5)==true)) (ci hc13 (ci (gI ((L7 x3 x9 x5)==true)) (ci (gI ((L7 x3 x9 x5)==true)) (ci (Fb (L7 x3 x9 x5)) (ci (gI ((P6 x3 x9 x5)==true)) (ci (Fb (P6 x3 x9 x5)) (ci (show(AVle (.bool (bif (P6 x3 x9 x5) then(x7.2.1==8) else false)) (.bool true)) from(Ct hs14)) (ci (show((true==true)=true→(true==true)=true) from(fun _=>rfl)) (ci (show((true==true)=true→(Spec Try.prog 21 [(.ptr 30000 0)] (Vq x9) (Uj x15) (Ug x15))) from(fun _=>(Bo x9.2.2 x9.2.1 x15 hx15))) (ci (show((true==true)=true→(true==true)=true) from(fun _=>rfl)) (ci (show((true==true)=true→(true==true)=true) from(fun _=>rfl)) (ci (show(true=true→(true==true)=true) from(fun _=>rfl)) (ci (show(AVle (.bool (((x15.1.length:Int):Int)==6)) (.bool false)) from(Ct hs17)) (ci (show((false==true)=true→(false==true)=true) from C8) (ci (show((false==true)=true→(Spec Try.prog 16 [.any,Tl,(.int .i64 (1:Int))] [] (.bool false) [])) from C8) (ci (show(false=true→(false==true)=true) from C8) (ci (show((false==true)=true→(false==true)=true) from C8) (ci (show((false==true)=true→(Spec Try.prog 16 [.any,Tl,(.int .i64 (2:Int))] [] (.bool false) [])) from C8) (ci (show((false==true)=true→(false==true)=true) from C8) (c1 (show(false=true→(false==true)=true) from C8)))))))))))))))))))))))))))))))))))))))) ?_;obtain rfl:=OI h;exact Gv []
   ·refine gR hq [0] [] [(73,(.bool false))] [⟨[],[],Vz,[],[]⟩,Z6,Z6] (ci (gI (Ti x3)) (ci (gI (Ti x3)) (ci (Fb (x3.1==0)) (ci (gI (P5 x3 x9)) (ci hc11 (ci (gI (P5 x3 x9)) (ci (gI (P5 x3 x9)) (ci (Fb (Qc x3 x9)) (ci (gI (P4 x3 x9)) (ci hc12 (ci (gI (P4 x3 x9)) (ci (gI (P4 x3 x9)) (ci (Fb (bif (Qc x3 x9) then(Uk x9) else false)) (ci (gI ((Oh x3 x9)==true)) (ci (Fb (Oh x3 x9)) (ci (gI (Th x3 x9 x5)) (ci (gI (Th x3 x9 x5)) (ci (Fb (bif (Oh x3 x9) then(Ui x5) else false)) (ci (gI ((L7 x3 x9 x5)==true)) (ci hc13 (ci (gI ((L7 x3 x9 x5)==true)) (ci (gI ((L7 x3 x9 x5)==true)) (ci (Fb (L7 x3 x9 x5)) (ci (gI ((P6 x3 x9 x5)==true)) (ci (Fb (P6 x3 x9 x5)) (ci (show(AVle (.bool (bif (P6 x3 x9 x5) then(x7.2.1==8) else false)) (.bool false)) from(Ct hs14)) (ci (show((false==true)=true→(false==true)=true) from C8) (ci (show((false==true)=true→(Spec Try.prog 21 [.any] [] Vz [])) from C8) (ci (show((false==true)=true→(false==true)=true) from C8) (ci (show((false==true)=true→(false==true)=true) from C8) (ci (show(false=true→(false==true)=true) from C8) (ci (show((false==true)=true→(false==true)=true) from C8) (ci (show((false==true)=true→(Spec Try.prog 16 [.any,Tl,(.int .i64 (1:Int))] [] (.bool false) [])) from C8) (ci (show(false=true→(false==true)=true) from C8) (ci (show((false==true)=true→(false==true)=true) from C8) (ci (show((false==true)=true→(Spec Try.prog 16 [.any,Tl,(.int .i64 (2:Int))] [] (.bool false) [])) from C8) (ci (show((false==true)=true→(false==true)=true) from C8) (c1 (show(false=true→(false==true)=true) from C8))))))))))))))))))))))))))))))))))))))) ?_;obtain rfl:=OI h;exact Gv []
 ·refine gR hq [1,2] [] [(10,(AV.list 1 eU8 0 R8 .exact))] [⟨[],[],(.tuple [(bif false then((.ptr 20000 0):AV) else .nilp),(Gu x1.2)]),(bif false then(Uh x1) else[]),[]⟩] (ci (Fw 1 eU8 (0:Int) R8) (c1 (show(Spec Try.prog 10 [(AV.list 1 eU8 0 R8 .none)] [] (.tuple [(bif false then((.ptr 20000 0):AV) else .nilp),(Gu x1.2)]) (bif false then(Uh x1) else[])) from(Tp (fun b_:Bool=>Spec Try.prog 10 [(AV.list 1 eU8 0 R8 .none)] [] (.tuple [(bif b_ then((.ptr 20000 0):AV) else .nilp),(Gu x1.2)]) (bif b_ then(Uh x1) else[])) hs2 (Ch R8 x1 hx1))))) ?_;refine gR hq [1,19] [] [] [] (ci (show((true==false)=true→(true==false)=true) from C8) (c1 (show(true=false→(true==false)=true) from Sb))) ?_;refine T3 true ?_;refine Cc hq [0] [] ?_;obtain rfl:=OI h;exact Gv []
def A6(a6:List Int)(a1:List Int):Int→Option (LR Int (Unit ⊕ Bool)):=
 fun(i1:Int)=>(bif (decide (i1<(a6.length:Int))) then(Do (Ey i1 a6.length) (Do (Ey i1 a1.length) (bif (((a6.getD i1.toNat 0):Int)!=(a1.getD i1.toNat 0)) then(some (.done (.inr false))) else(some (.next (Gi (i1+1))))))) else(some (.done (.inl ()))))
def E5(Γ:Cz)(a6:List Int)(a1:List Int)(r:Bool):Exit→St→Prop:=fK Try.prog Γ Try.f18.results.toList [] (.bool r) []
def A5(a6:List Int)(a1:List Int):Option Bool:=
 (bif (((a6.length:Int):Int)!=(a1.length:Int)) then(some false) else((Cn (A6 a6 a1) (0:Int)).bind (fun x4=>(match x4 with|(.inl _)=>(some true)|(.inr r6)=>(some r6)))))
theorem Ca(a6:List Int)(a1:List Int)(r:Bool)(h:A5 a6 a1=some r):Spec Try.prog 18 [(AV.list 1 eU8 0 a6 .none),(AV.list 1 eU8 0 a1 .none)] [] (.bool r) []:=by
 refine Bf mix Try.func18 (fun Γ hq=>?_);unfold A5 at h;refine Cc hq [0,1] [] ?_;refine Cc hq [0,1,10] [] ?_;refine gC h (fun h=>?_) (fun h=>?_)
 ·refine Cc hq [4] [] ?_;obtain rfl:=OI h;exact Gv []
 ·refine Cc hq [0,1,5] [] ?_;obtain⟨x4,hx4,h⟩:=bind_some h;refine gL hq hx4 [0,1,5] [] (fun u i1=>(Sc u [(5,(Gu i1))] [])) (fun u x_=>match x_ with|(.inl _)=>aG Γ (.exit 0) (⟨[],[],[]⟩:St)|(.inr r_)=>aR (E5 Γ a6 a1 r_)) ?_ ?_
  ·intro i1 y h;unfold A6 at h;refine Cc hq [0,1,5,14] [] ?_;refine gC h (fun h=>?_) (fun h=>?_)
   ·obtain⟨hc2,h⟩:=Ag h;obtain⟨hc3,h⟩:=Ag h;refine gR hq [0,1,5,25] [] [] [] (ci hc2 (c1 hc3)) ?_;refine gC h (fun h=>?_) (fun h=>?_)
    ·refine Cc hq [4] [] ?_;cases h;exact gO (Tn (Ou [] (Le.refl _ _)))
    ·refine Cc hq [0,1,5] [] ?_;cases h;exact gN Ss
   ·cases h;exact gO (P7 (J8 [] [] hq))
  ·clear hx4;rcases x4 with _|r6
   ·refine gA ?_;refine Cc hq [4] [] ?_;obtain rfl:=OI h;exact Gv []
   ·refine Vk (fun st' hk=>?_);obtain rfl:=OI h;exact gK hk
def Ax(a6:List Aa)(a1:List Aa):Int→Option (LR Int (Unit ⊕ Bool)):=
 fun(i1:Int)=>(bif (decide (i1<(a6.length:Int))) then(Do (Ey i1 a6.length) (Do (Ey i1 a1.length) (bif (!(((a6.getD i1.toNat default).Write==(a1.getD i1.toNat default).Write)&&((((a6.getD i1.toNat default).At:Int)==(a1.getD i1.toNat default).At)&&((((a6.getD i1.toNat default).Byte:Int)==(a1.getD i1.toNat default).Byte)&&true)))) then(some (.done (.inr false))) else(some (.next (Gi (i1+1))))))) else(some (.done (.inl ()))))
def Ed(Γ:Cz)(a6:List Aa)(a1:List Aa)(r:Bool):Exit→St→Prop:=fK Try.prog Γ Try.f20.results.toList [] (.bool r) []
def A7(a6:List Aa)(a1:List Aa):Option Bool:=
 (bif (((a6.length:Int):Int)!=(a1.length:Int)) then(some false) else((Cn (Ax a6 a1) (0:Int)).bind (fun x4=>(match x4 with|(.inl _)=>(some true)|(.inr r6)=>(some r6)))))
theorem Eb(a6:List Aa)(a1:List Aa)(r:Bool)(h:A7 a6 a1=some r):Spec Try.prog 20 [(AV.list 3 Am default a6 .none),(AV.list 3 Am default a1 .none)] [] (.bool r) []:=by
 refine Bf mix Try.func20 (fun Γ hq=>?_);unfold A7 at h;refine Cc hq [0,1] [] ?_;refine Cc hq [0,1,10] [] ?_;refine gC h (fun h=>?_) (fun h=>?_)
 ·refine Cc hq [4] [] ?_;obtain rfl:=OI h;exact Gv []
 ·refine Cc hq [0,1,5] [] ?_;obtain⟨x4,hx4,h⟩:=bind_some h;refine gL hq hx4 [0,1,5] [] (fun u i1=>(Sc u [(5,(Gu i1))] [])) (fun u x_=>match x_ with|(.inl _)=>aG Γ (.exit 0) (⟨[],[],[]⟩:St)|(.inr r_)=>aR (Ed Γ a6 a1 r_)) ?_ ?_
  ·intro i1 y h;unfold Ax at h;refine Cc hq [0,1,5,14] [] ?_;refine gC h (fun h=>?_) (fun h=>?_)
   ·obtain⟨hc2,h⟩:=Ag h;obtain⟨hc3,h⟩:=Ag h;refine gR hq [0,1,5,25] [] [] [] (ci hc2 (c1 hc3)) ?_;refine gC h (fun h=>?_) (fun h=>?_)
    ·refine Cc hq [4] [] ?_;cases h;exact gO (Tn (Ou [] (Le.refl _ _)))
    ·refine Cc hq [0,1,5] [] ?_;cases h;exact gN Ss
   ·cases h;exact gO (P7 (J8 [] [] hq))
  ·clear hx4;rcases x4 with _|r6
   ·refine gA ?_;refine Cc hq [4] [] ?_;obtain rfl:=OI h;exact Gv []
   ·refine Vk (fun st' hk=>?_);obtain rfl:=OI h;exact gK hk
def Kk:=(false==false)
def R9(x9:(List Int×Int×List Aa×List Int)):=(x9.2.1==0)
def Vi(x9:(List Int×Int×List Aa×List Int))(x7:(List Int×Int×List Aa×List Int)):=(bif (bif (R9 x9) then(((x7.1.length:Int):Int)==1) else false) then(((x9.1.length:Int):Int)==2) else false)
def Gt(x9:(List Int×Int×List Aa×List Int))(x7:(List Int×Int×List Aa×List Int)):=((Vi x9 x7)==true)
def Tk:=((.ptr 20000 0):AV)
def Up:=(bif true then Tk else .nilp)
def Uo:=(bif false then Tk else .nilp)
def Oi(a1:List Int):AV:=(AV.list 1 eU8 0 a1 .none)
def Tj:AV:=Vz
def Vs(x11:(List Int×List Aa×List Int)):List AV:=[(.vsl 35000 x11.2.2.length),(Z8 x11.2.1 37001)]
def Vj(x9:(List Int×Int×List Aa×List Int))(x7:(List Int×Int×List Aa×List Int)):=((bif (R9 x9) then(((x7.1.length:Int):Int)==1) else false)==true)
def Vr(a8:Int):=(([(16:Int),(32:Int),(64:Int)]:List Int).getD (Int.tmod (Gi a8) (3:Int)).toNat (0:Int))
def Wl(x11:(List Int×List Aa×List Int)):List (Nat×Own):=[(30000,.row 63 (Vs x11)),(37001,.tok 3 49 x11.2.1.length),(Z2 35000 x11.2.2),(20000,.tok 1 5 x11.1.length)]
def Wk(x9:(List Int×Int×List Aa×List Int))(x7:(List Int×Int×List Aa×List Int))(a8:Int):AV:=(.bool (bif (Vi x9 x7) then(((x7.1.getD (0:Int).toNat (0:Int)):Int)==(C3 ((x9.1.getD (0:Int).toNat (0:Int))+(Ht .u64 (x9.1.getD (1:Int).toNat (0:Int)) (C3 (Gi (Int.tdiv (Vr a8) (2:Int)))))))) else false))
def Um(x2:((Bool×Hw)×Int)):List (Nat×Own):=(Z4 20000 21000 x2.1.2.bytes.length x2.1.2.trace 21001 x2.1.2.bytes x2.1.2.trace.length)
def Un(x4:((Bool×Hw)×Int)):List (Nat×Own):=(Z4 20000 21000 x4.1.2.bytes.length x4.1.2.trace 21001 x4.1.2.bytes x4.1.2.trace.length)
def Ul(x31:((Bool×Hw)×Int)):List (Nat×Own):=(Z4 20000 21000 x31.1.2.bytes.length x31.1.2.trace 21001 x31.1.2.bytes x31.1.2.trace.length)
def Wj(x15:(List Int×List Aa×List Int)):List (Nat×Own):=[(Pd x15.2.2.length x15.2.1),(37001,.tok 3 49 x15.2.1.length),(Z2 35000 x15.2.2),(20000,.tok 1 5 x15.1.length)]
def Wg(x19:(List Aa×List Aa×List Int)):List (Nat×Own):=(Z5 x19.2.2.length x19.2.1 x19.2.1.length x19.2.2 x19.1.length)
def Wh(x26:(List Aa×List Aa×List Int)):List (Nat×Own):=(Z5 x26.2.2.length x26.2.1 x26.2.1.length x26.2.2 x26.1.length)
def Wi(x28:(List Aa×List Aa×List Int)):List (Nat×Own):=(Z5 x28.2.2.length x28.2.1 x28.2.1.length x28.2.2 x28.1.length)
def Bg(a1:List Int)(aB:Int)(a8:Int):Option Bool:=
 (m_locksteplaw12_awake.bind fun x1=>(bif (!x1) then(some false) else((B7 a1).bind fun x2=>(bif x2.1.1 then((B7 a1).bind fun x4=>(bif x4.1.1 then(bif (bif (x2.2 !=0) then true else(x4.2 !=0)) then(some (decide (((4096:Int):Int)<(a1.length:Int)))) else(Do (Ey (Int.tmod (Gi a8) (3:Int)) ([(16:Int),(32:Int),(64:Int)]:List Int).length) ((Bh (C3 aB) (([(16:Int),(32:Int),(64:Int)]:List Int).getD (Int.tmod (Gi a8) (3:Int)).toNat (0:Int)) (1:Int) x2.1.2.bytes x2.1.2.trace).bind fun x7=>(Do (x2.1.2.bytes.length=x7.2.2.2.length) ((Bh (C3 aB) (Gi (Int.tdiv (([(16:Int),(32:Int),(64:Int)]:List Int).getD (Int.tmod (Gi a8) (3:Int)).toNat (0:Int)) (2:Int))) (2:Int) x4.1.2.bytes x4.1.2.trace).bind fun x9=>(Do (x4.1.2.bytes.length=x9.2.2.2.length) ((Bj x7.2.2.2 x7.2.2.1).bind fun x11=>(Do (x7.2.2.2.length=x11.2.2.length) ((A5 x11.1 a1).bind fun x13=>(bif (!x13) then(some false) else((Bj x9.2.2.2 x9.2.2.1).bind fun x15=>(Do (x9.2.2.2.length=x15.2.2.length) ((A5 x15.1 a1).bind fun x17=>(bif (!x17) then(some false) else(bif (x7.2.1 !=0) then(bif (x7.2.1==8) then((Bb x11.2.2 x11.2.1).bind fun x19=>(Do (x11.2.2.length=x19.2.2.length) (some (bif (((x19.1.length:Int):Int)==0) then(x9.2.1==8) else false)))) else(some false)) else(Do (((bif (bif (x9.2.1==0) then(((x7.1.length:Int):Int)==1) else false) then(((x9.1.length:Int):Int)==2) else false)==true)=true→(Ey (0:Int) x7.1.length)) (Do (((bif (bif (x9.2.1==0) then(((x7.1.length:Int):Int)==1) else false) then(((x9.1.length:Int):Int)==2) else false)==true)=true→(Ey (0:Int) x9.1.length)) (Do (((bif (bif (x9.2.1==0) then(((x7.1.length:Int):Int)==1) else false) then(((x9.1.length:Int):Int)==2) else false)==true)=true→(Ey (1:Int) x9.1.length)) (Do (((bif (bif (x9.2.1==0) then(((x7.1.length:Int):Int)==1) else false) then(((x9.1.length:Int):Int)==2) else false)==true)=true→(0≤(C3 (Gi (Int.tdiv (([(16:Int),(32:Int),(64:Int)]:List Int).getD (Int.tmod (Gi a8) (3:Int)).toNat (0:Int)) (2:Int)))))) (bif (bif (bif (bif (x9.2.1==0) then(((x7.1.length:Int):Int)==1) else false) then(((x9.1.length:Int):Int)==2) else false) then(((x7.1.getD (0:Int).toNat (0:Int)):Int)==(C3 ((x9.1.getD (0:Int).toNat (0:Int))+(Ht .u64 (x9.1.getD (1:Int).toNat (0:Int)) (C3 (Gi (Int.tdiv (([(16:Int),(32:Int),(64:Int)]:List Int).getD (Int.tmod (Gi a8) (3:Int)).toNat (0:Int)) (2:Int)))))))) else false) then((Bb x11.2.2 x11.2.1).bind fun x26=>(Do (x11.2.2.length=x26.2.2.length) ((Bb x15.2.2 x15.2.1).bind fun x28=>(Do (x15.2.2.length=x28.2.2.length) ((A7 x26.1 x28.1).bind fun x30=>(some x30)))))) else(some false))))))))))))))))))))) else(some (decide (((4096:Int):Int)<(a1.length:Int)))))) else((B7 a1).bind fun x31=>(bif x31.1.1 then(some (decide (((4096:Int):Int)<(a1.length:Int)))) else(some (decide (((4096:Int):Int)<(a1.length:Int))))))))))
theorem ok_locksteplaw12_MemReads(a1:List Int)(aB:Int)(a8:Int)(r:Bool)(h:Bg a1 aB a8=some r):Spec Try.prog 5 [(AV.list 1 eU8 0 a1 .none),(.int .u16 aB),(.int .u8 a8)] [] (.bool r) []:=by
 refine Bf mix Try.func5 (fun Γ hq=>?_);unfold Bg at h;refine Cc hq [0,1,2] [] ?_;obtain⟨x1,hx1,h⟩:=bind_some h;refine gR hq [0,1,2,17] [] [] [⟨[],[],(.bool x1),[],[]⟩] (c1 (Et  x1 hx1)) ?_;refine gC h (fun h=>?_) (fun h=>?_)
 ·refine Cc hq [6] [] ?_;obtain rfl:=OI h;exact Gv []
 ·obtain⟨x2,hx2,h⟩:=bind_some h;refine gB h (fun hs3 h=>?_) (fun hs3 h=>?_)
  ·refine gR hq [0,1,2,7,8] [20,60020000,60020001] [] [(Z9 20 60020000 60020001 Up x2.2 (Um x2))] (c1 (show(Spec Try.prog 10 [(Oi a1)] [] (.tuple [Up,(Gu x2.2)]) (bif true then(Um x2) else[])) from(Tp (fun b_:Bool=>Spec Try.prog 10 [(Oi a1)] [] (.tuple [(bif b_ then Tk else .nilp),(Gu x2.2)]) (bif b_ then(Um x2) else[])) hs3 (Ch a1 x2 hx2)))) ?_;obtain⟨x4,hx4,h⟩:=bind_some h;refine gB h (fun hs5 h=>?_) (fun hs5 h=>?_)
   ·refine gR hq [0,1,2,7,8,9,10] [20,25,60020000,60020001,60025000,60025001] [] [(Z9 25 60025000 60025001 Up x4.2 (Un x4))] (c1 (show(Spec Try.prog 10 [(Oi a1)] [] (.tuple [Up,(Gu x4.2)]) (bif true then(Un x4) else[])) from(Tp (fun b_:Bool=>Spec Try.prog 10 [(Oi a1)] [] (.tuple [(bif b_ then Tk else .nilp),(Gu x4.2)]) (bif b_ then(Un x4) else[])) hs5 (Ch a1 x4 hx4)))) ?_;refine gR hq [0,1,2,7,9,41] [20,25,60020000,60020001,60025000,60025001] [] [] (ci (show(Kk=true→Kk=true) from(fun _=>rfl)) (ci (show(false=false→Kk=true) from(fun _=>rfl)) (ci (show(Kk=true→Kk=true) from(fun _=>rfl)) (ci (show(false=false→Kk=true) from(fun _=>rfl)) (ci (gI ((x2.2 !=0)==false)) (c1 (Uq (x2.2 !=0)))))))) ?_;refine gC h (fun h=>?_) (fun h=>?_)
    ·refine Cc hq [6] [] ?_;cases h;exact Gv []
    ·obtain⟨hc6,h⟩:=Ag h;refine gR hq [0,1,7,9,11] [20,25,60020000,60020001,60025000,60025001] [(45,(AV.list 1 U2 0 ([(16:Int),(32:Int),(64:Int)]:List Int) .exact))] [] (ci (Fw 1 U2 (0:Int) ([(16:Int),(32:Int),(64:Int)]:List Int)) (ci (show((3:Int)≠0) from(by decide)) (c1 hc6))) ?_;obtain⟨x7,hx7,h⟩:=bind_some h;obtain⟨hc8,h⟩:=Ag h;refine gR hq [0,1,7,9,11,12,13] [20,25,56,60020000,60020001,60025000,60025001] [] [(Z7 20 60020001 60020000 56 x7.1 x7.2.1 x7.2.2.2.length x7.2.2.1 x7.2.2.1.length x7.2.2.2 x7.1.length)] (c1 (Cq (C3 aB) (Vr a8) (1:Int) x2.1.2.bytes x2.1.2.trace x7 hx7)) ?_;obtain⟨x9,hx9,h⟩:=bind_some h;obtain⟨hc10,h⟩:=Ag h;refine gR hq [0,7,9,11,12,13,14,15] [20,25,56,65,60020000,60020001,60025000,60025001] [] [(Z7 25 60025001 60025000 65 x9.1 x9.2.1 x9.2.2.2.length x9.2.2.1 x9.2.2.1.length x9.2.2.2 x9.1.length)] (ci (show((2:Int)≠0) from(by decide)) (c1 (Cq (C3 aB) (Gi (Int.tdiv (Vr a8) (2:Int))) (2:Int) x4.1.2.bytes x4.1.2.trace x9 hx9))) ?_;obtain⟨x11,hx11,h⟩:=bind_some h;obtain⟨hc12,h⟩:=Ag h;obtain⟨x13,hx13,h⟩:=bind_some h;refine gB h (fun hs14 h=>?_) (fun hs14 h=>?_)
     ·refine gR hq [7,9,11,12,13,14,15,79] [20,25,56,65,60020000,60020001,60025000,60025001] [(73,(.bool true))] [(Vu 20 60020001 60020000 69 x11.1 (Wl x11)),⟨[],[],(.bool x13),[],[]⟩,⟨[],[],(AV.list 1 eU8 0 ([]:List Int) .none),[],[]⟩,Z6] (ci (Cl x7.2.2.2 x7.2.2.1 x11 hx11) (ci (Ca x11.1 a1 x13 hx13) (ci (show(AVle (.bool (!x13)) (.bool true)) from(Ct hs14)) (ci (show((true==false)=true→(true==false)=true) from C8) (ci (show((true==false)=true→(Spec Try.prog 19 [.any] [] (AV.list 1 eU8 0 ([]:List Int) .none) [])) from C8) (ci (show((true==false)=true→(true==false)=true) from C8) (ci (show((true==false)=true→(true==false)=true) from C8) (ci (show((true==false)=true→(Spec Try.prog 18 [(AV.list 1 eU8 0 ([]:List Int) .none),(Oi a1)] [] (.bool false) [])) from C8) (ci (show((true==false)=true→(true==false)=true) from C8) (c1 (show(true=false→(true==false)=true) from Sb))))))))))) ?_;refine T3 true ?_;refine Cc hq [6] [] ?_;obtain rfl:=OI h;exact Gv []
     ·obtain⟨x15,hx15,h⟩:=bind_some h;obtain⟨hc16,h⟩:=Ag h;obtain⟨x17,hx17,h⟩:=bind_some h;refine gR hq [7,9,11,12,13,14,15,79] [20,25,56,65,60020000,60020001,60025000,60025001] [(73,(.bool false))] [(Vu 20 60020001 60020000 69 x11.1 (Wl x11)),⟨[],[],(.bool x13),[],[]⟩,(Vu 25 60025001 60025000 75 x15.1 (Wj x15)),⟨[],[],(.bool x17),[],[]⟩] (ci (Cl x7.2.2.2 x7.2.2.1 x11 hx11) (ci (Ca x11.1 a1 x13 hx13) (ci (show(AVle (.bool (!x13)) (.bool false)) from(Ct hs14)) (ci (show(Kk=true→Kk=true) from(fun _=>rfl)) (ci (show(Kk=true→(Spec Try.prog 19 [(.ptr 30000 0)] (Z3 x9.2.2.2.length x9.2.2.1 x9.2.2.1.length x9.2.2.2) (AV.list 1 eU8 0 x15.1 (.own 20000)) (Wj x15))) from(fun _=>(Cl x9.2.2.2 x9.2.2.1 x15 hx15))) (ci (show(Kk=true→Kk=true) from(fun _=>rfl)) (ci (show(Kk=true→Kk=true) from(fun _=>rfl)) (ci (show(Kk=true→(Spec Try.prog 18 [(AV.list 1 eU8 0 x15.1 .none),(Oi a1)] [] (.bool x17) [])) from(fun _=>(Ca x15.1 a1 x17 hx17))) (ci (show(Kk=true→Kk=true) from(fun _=>rfl)) (c1 (show(false=false→Kk=true) from(fun _=>rfl)))))))))))) ?_;refine gC h (fun h=>?_) (fun h=>?_)
      ·refine Cc hq [6] [] ?_;obtain rfl:=OI h;exact Gv []
      ·refine Cc hq [7,9,11,12,13,14,15,81] [20,25,56,65,60020000,60020001,60025000,60025001] ?_;refine gC h (fun h=>?_) (fun h=>?_)
       ·refine gB h (fun hs18 h=>?_) (fun hs18 h=>?_)
        ·obtain⟨x19,hx19,h⟩:=bind_some h;obtain⟨hc20,h⟩:=Ag h;refine gR hq [6] [] [(84,(.bool true))] [(Vx 20 60020001 60020000 86 x19.1 (Wg x19))] (ci (show(AVle (.bool (x7.2.1==8)) (.bool true)) from(Ct hs18)) (ci (show((true==true)=true→(true==true)=true) from(fun _=>rfl)) (ci (show((true==true)=true→(Spec Try.prog 21 [(.ptr 30000 0)] [(30000,.row 63 (Vs x11)),(37001,.tok 3 49 x11.2.1.length),(Z2 35000 x11.2.2)] (Z8 x19.1 20000) (Wg x19))) from(fun _=>(Bo x11.2.2 x11.2.1 x19 hx19))) (ci (show((true==true)=true→(true==true)=true) from(fun _=>rfl)) (ci (show((true==true)=true→(true==true)=true) from(fun _=>rfl)) (ci (show(true=true→(true==true)=true) from(fun _=>rfl)) (ci (gI ((((x19.1.length:Int):Int)==0)==true)) (c1 (Fb (((x19.1.length:Int):Int)==0)))))))))) ?_;cases h;exact Gv []
        ·refine gR hq [6] [] [(84,(.bool false))] [⟨[],[],Tj,[],[]⟩] (ci (show(AVle (.bool (x7.2.1==8)) (.bool false)) from(Ct hs18)) (ci (show((false==true)=true→(false==true)=true) from C8) (ci (show((false==true)=true→(Spec Try.prog 21 [.any] [] Tj [])) from C8) (ci (show((false==true)=true→(false==true)=true) from C8) (ci (show((false==true)=true→(false==true)=true) from C8) (ci (show(false=true→(false==true)=true) from C8) (ci (show((false==true)=true→(false==true)=true) from C8) (c1 (show(false=true→(false==true)=true) from C8))))))))) ?_;obtain rfl:=OI h;exact Gv []
       ·obtain⟨hc21,h⟩:=Ag h;obtain⟨hc22,h⟩:=Ag h;obtain⟨hc23,h⟩:=Ag h;obtain⟨hc24,h⟩:=Ag h;refine gB h (fun hs25 h=>?_) (fun hs25 h=>?_)
        ·obtain⟨x26,hx26,h⟩:=bind_some h;obtain⟨hc27,h⟩:=Ag h;obtain⟨x28,hx28,h⟩:=bind_some h;obtain⟨hc29,h⟩:=Ag h;obtain⟨x30,hx30,h⟩:=bind_some h;refine gR hq [6] [] [(123,(.bool true))] [(Vx 20 60020001 60020000 125 x26.1 (Wh x26)),(Vx 25 60025001 60025000 127 x28.1 (Wi x28)),⟨[],[],(.bool x30),[],[]⟩] (ci (gI ((R9 x9)==true)) (ci (gI ((R9 x9)==true)) (ci (Fb (R9 x9)) (ci (gI (Vj x9 x7)) (ci (gI (Vj x9 x7)) (ci (Fb (bif (R9 x9) then(((x7.1.length:Int):Int)==1) else false)) (ci (gI (Gt x9 x7)) (ci hc21 (ci (gI (Gt x9 x7)) (ci (gI (Gt x9 x7)) (ci hc22 (ci (gI (Gt x9 x7)) (ci (gI (Gt x9 x7)) (ci hc23 (ci (gI (Gt x9 x7)) (ci (gI (Gt x9 x7)) (ci (show((Gt x9 x7)=true→((2:Int)≠0)) from(fun hg=>(by decide))) (ci (gI (Gt x9 x7)) (ci (gI (Gt x9 x7)) (ci (gI (Gt x9 x7)) (ci hc24 (ci (gI (Gt x9 x7)) (ci (gI (Gt x9 x7)) (ci (gI (Gt x9 x7)) (ci (gI (Gt x9 x7)) (ci (Fb (Vi x9 x7)) (ci (show(AVle (Wk x9 x7 a8) (.bool true)) from(Ct hs25)) (ci (show((true==true)=true→(true==true)=true) from(fun _=>rfl)) (ci (show((true==true)=true→(Spec Try.prog 21 [(.ptr 30000 0)] [(30000,.row 63 (Vs x11)),(37001,.tok 3 49 x11.2.1.length),(Z2 35000 x11.2.2)] (Z8 x26.1 20000) (Wh x26))) from(fun _=>(Bo x11.2.2 x11.2.1 x26 hx26))) (ci (show((true==true)=true→(true==true)=true) from(fun _=>rfl)) (ci (show((true==true)=true→(Spec Try.prog 21 [(.ptr 30000 0)] (Z3 x15.2.2.length x15.2.1 x15.2.1.length x15.2.2) (Z8 x28.1 20000) (Wi x28))) from(fun _=>(Bo x15.2.2 x15.2.1 x28 hx28))) (ci (show((true==true)=true→(true==true)=true) from(fun _=>rfl)) (ci (show((true==true)=true→(true==true)=true) from(fun _=>rfl)) (ci (show((true==true)=true→(Spec Try.prog 20 [(AV.list 3 Am default x26.1 .none),(AV.list 3 Am default x28.1 .none)] [] (.bool x30) [])) from(fun _=>(Eb x26.1 x28.1 x30 hx30))) (c1 (show(true=true→(true==true)=true) from(fun _=>rfl))))))))))))))))))))))))))))))))))))) ?_;obtain rfl:=OI h;exact Gv []
        ·refine gR hq [6] [] [(123,(.bool false))] [⟨[],[],Tj,[],[]⟩,⟨[],[],Tj,[],[]⟩,Z6] (ci (gI ((R9 x9)==true)) (ci (gI ((R9 x9)==true)) (ci (Fb (R9 x9)) (ci (gI (Vj x9 x7)) (ci (gI (Vj x9 x7)) (ci (Fb (bif (R9 x9) then(((x7.1.length:Int):Int)==1) else false)) (ci (gI (Gt x9 x7)) (ci hc21 (ci (gI (Gt x9 x7)) (ci (gI (Gt x9 x7)) (ci hc22 (ci (gI (Gt x9 x7)) (ci (gI (Gt x9 x7)) (ci hc23 (ci (gI (Gt x9 x7)) (ci (gI (Gt x9 x7)) (ci (show((Gt x9 x7)=true→((2:Int)≠0)) from(fun hg=>(by decide))) (ci (gI (Gt x9 x7)) (ci (gI (Gt x9 x7)) (ci (gI (Gt x9 x7)) (ci hc24 (ci (gI (Gt x9 x7)) (ci (gI (Gt x9 x7)) (ci (gI (Gt x9 x7)) (ci (gI (Gt x9 x7)) (ci (Fb (Vi x9 x7)) (ci (show(AVle (Wk x9 x7 a8) (.bool false)) from(Ct hs25)) (ci (show((false==true)=true→(false==true)=true) from C8) (ci (show((false==true)=true→(Spec Try.prog 21 [.any] [] Tj [])) from C8) (ci (show((false==true)=true→(false==true)=true) from C8) (ci (show((false==true)=true→(Spec Try.prog 21 [.any] [] Tj [])) from C8) (ci (show((false==true)=true→(false==true)=true) from C8) (ci (show((false==true)=true→(false==true)=true) from C8) (ci (show((false==true)=true→(Spec Try.prog 20 [Tj,Tj] [] (.bool false) [])) from C8) (c1 (show(false=true→(false==true)=true) from C8)))))))))))))))))))))))))))))))))))) ?_;obtain rfl:=OI h;exact Gv []
   ·refine gR hq [0,1,2,7,8,9,10] [20,60020000,60020001] [] [(Vw Uo x4.2 (Un x4))] (c1 (show(Spec Try.prog 10 [(Oi a1)] [] (.tuple [Uo,(Gu x4.2)]) (bif false then(Un x4) else[])) from(Tp (fun b_:Bool=>Spec Try.prog 10 [(Oi a1)] [] (.tuple [(bif b_ then Tk else .nilp),(Gu x4.2)]) (bif b_ then(Un x4) else[])) hs5 (Ch a1 x4 hx4)))) ?_;refine gR hq [0,1,2,7,9,41] [20,60020000,60020001] [] [] (ci (show(Kk=true→Kk=true) from(fun _=>rfl)) (ci (show(false=false→Kk=true) from(fun _=>rfl)) (ci (show((true==false)=true→(true==false)=true) from C8) (ci (show(true=false→(true==false)=true) from Sb) (ci (show((true==false)=true→(true==false)=true) from C8) (c1 (show(true=false→(true==false)=true) from Sb))))))) ?_;refine T3 true ?_;refine Cc hq [6] [] ?_;cases h;exact Gv []
  ·refine gR hq [0,1,2,7,8] [] [] [(Vw Uo x2.2 (Um x2))] (c1 (show(Spec Try.prog 10 [(Oi a1)] [] (.tuple [Uo,(Gu x2.2)]) (bif false then(Um x2) else[])) from(Tp (fun b_:Bool=>Spec Try.prog 10 [(Oi a1)] [] (.tuple [(bif b_ then Tk else .nilp),(Gu x2.2)]) (bif b_ then(Um x2) else[])) hs3 (Ch a1 x2 hx2)))) ?_;obtain⟨x31,hx31,h⟩:=bind_some h;refine gB h (fun hs32 h=>?_) (fun hs32 h=>?_)
   ·refine gR hq [0,1,2,7,8,9,10] [25,60025000,60025001] [] [(Z9 25 60025000 60025001 Up x31.2 (Ul x31))] (c1 (show(Spec Try.prog 10 [(Oi a1)] [] (.tuple [Up,(Gu x31.2)]) (bif true then(Ul x31) else[])) from(Tp (fun b_:Bool=>Spec Try.prog 10 [(Oi a1)] [] (.tuple [(bif b_ then Tk else .nilp),(Gu x31.2)]) (bif b_ then(Ul x31) else[])) hs32 (Ch a1 x31 hx31)))) ?_;refine gR hq [0,1,2,7,9,41] [25,60025000,60025001] [] [] (ci (show((true==false)=true→(true==false)=true) from C8) (ci (show(true=false→(true==false)=true) from Sb) (ci (show((true==false)=true→(true==false)=true) from C8) (ci (show(true=false→(true==false)=true) from Sb) (ci (show((true==false)=true→(true==false)=true) from C8) (c1 (show(true=false→(true==false)=true) from Sb))))))) ?_;refine T3 true ?_;refine Cc hq [6] [] ?_;cases h;exact Gv []
   ·refine gR hq [0,1,2,7,8,9,10] [] [] [(Vw Uo x31.2 (Ul x31))] (c1 (show(Spec Try.prog 10 [(Oi a1)] [] (.tuple [Uo,(Gu x31.2)]) (bif false then(Ul x31) else[])) from(Tp (fun b_:Bool=>Spec Try.prog 10 [(Oi a1)] [] (.tuple [(bif b_ then Tk else .nilp),(Gu x31.2)]) (bif b_ then(Ul x31) else[])) hs32 (Ch a1 x31 hx31)))) ?_;refine gR hq [0,1,2,7,9,41] [] [] [] (ci (show((true==false)=true→(true==false)=true) from C8) (ci (show(true=false→(true==false)=true) from Sb) (ci (show((true==false)=true→(true==false)=true) from C8) (ci (show(true=false→(true==false)=true) from Sb) (ci (show((true==false)=true→(true==false)=true) from C8) (c1 (show(true=false→(true==false)=true) from Sb))))))) ?_;refine T3 true ?_;refine Cc hq [6] [] ?_;cases h;exact Gv []
theorem Ex{n:Int}(h:-9223372036854775808≤n)(h':n<9223372036854775808):Gi n=n:=by
 show IntKind.i64.wrap n=n
 simp only[IntKind.wrap,IntKind.bits,IntKind.signed]
 simp
 split<;>omega
theorem Cs{n:Int}(h:0≤n)(h':n<18446744073709551616):C3 n=n:=by
 show IntKind.u64.wrap n=n
 simp[IntKind.wrap,IntKind.bits,IntKind.signed];omega
theorem Te(n:Int):Td n=n % 256:=by
 show IntKind.u8.wrap n=_
 simp[IntKind.wrap,IntKind.bits,IntKind.signed]
theorem K4(w n:Nat)(h:n<2 ^ w):(BitVec.ofInt w (n:Int)).toNat=n:=by
 rw[BitVec.toNat_ofInt,← Int.natCast_emod,Int.toNat_natCast,Nat.mod_eq_of_lt h]
theorem J6(k:IntKind)(hk:k.signed=false){n:Nat}(h:n<2 ^ k.bits):k.wrap (n:Int)=n:=by
 simp only[IntKind.wrap,hk,Bool.false_and,Bool.false_eq_true,if_false]
 have:((2:Int) ^ k.bits)=((2 ^ k.bits:Nat):Int):=by simp
 rw[this,← Int.natCast_emod,Nat.mod_eq_of_lt h]
theorem Si(k:IntKind)(hk:k.signed=false){a b:Nat}(ha:a<2 ^ k.bits)(hb:b<2 ^ k.bits):E0 .or k a b=((a ||| b:Nat):Int):=by
 simp only[E0,BitVec.toNat_or,K4 _ _ ha,K4 _ _ hb];exact J6 k hk (Nat.or_lt_two_pow ha hb)
theorem Uc(k:IntKind)(hk:k.signed=false)(j:Nat){a b:Nat}(ha:a<2 ^ j)(hb:a+b*2 ^ j<2 ^ k.bits){y:Int}(hy:y=((b*2 ^ j:Nat):Int)):E0 .or k a y=((a+b*2 ^ j:Nat):Int):=by
 subst hy;rw[Si k hk (by omega) (by omega),Nat.or_comm,Nat.mul_comm b,← Nat.two_pow_add_eq_or_of_lt ha,Nat.add_comm]
theorem Rc{x:Int}(j:Nat):x.fdiv (2 ^ j)=x / 2 ^ j:=by rw[Int.fdiv_eq_ediv_of_nonneg _ (by exact Int.le_of_lt (Int.pow_pos (by decide)))]
theorem C6{α:Type}(l:List α)(i:Nat)(d:α)(h:i<l.length):l.getD i d=l[i]:=by simp[List.getD,h]
theorem J4{α:Type}(l:List α)(i:Nat)(d:α)(h:i<l.length):l.take (i+1)=l.take i++[l.getD i d]:=by
 rw[List.take_add_one,C6 _ _ _ h];simp[h]
theorem Re{α:Type}{l:List α}{i:Nat}{d:α}(h:i<l.length):l.getD i d∈l:=by rw[C6 _ _ _ h];exact List.getElem_mem h
theorem So{i n:Nat}(h:i<n):Ey (i:Int) n:=⟨by omega,by exact_mod_cast h⟩
theorem Mw{S X:Type}(f:S→Option (LR S X))(T:Nat→S)(x:X):∀(n:Nat),(∀ i,i<n→f (T i)=some (.next (T (i+1))))→f (T n)=some (.done x)→Cn f (T 0)=some x:=by
 suffices h:∀(k i n:Nat),i+k=n→(∀ j,i≤j→j<n→f (T j)=some (.next (T (j+1))))→f (T n)=some (.done x)→Cn f (T i)=some x from
  fun n h1 h2=>h n 0 n (by omega) (fun j _ hj=>h1 j hj) h2
 intro k
 induction k with
 | zero=>
  intro i n hi _ h2
  have hin:n=i:=by omega
  subst hin;exact B1 h2
 | succ k ih=>intro i n hi h1 h2;rw[Ds (h1 i (Nat.le_refl _) (by omega))];exact ih (i+1) n (by omega) (fun j hj hj'=>h1 j (by omega) hj') h2
theorem Cb(i:Nat):((i:Int)).toNat=i:=Int.toNat_natCast i
theorem w1{i:Nat}(h:i<4611686018427387904):Gi ((i:Int)+1)=((i+1:Nat):Int):=by rw[Ex (by omega) (by omega)];omega
theorem Hz{i n:Nat}(h:i<n):decide (((i:Nat):Int)<((n:Nat):Int))=true:=by simpa using h
theorem Ks{n:Nat}:decide (((n:Nat):Int)<((n:Nat):Int))=false:=by simp
theorem Sp{i n:Nat}(h:i<n):Ey ((i:Nat):Int) n:=So h
def Hn(B:List Int):Prop:=∀ x∈B,0≤x∧x<256
def Nu:Nat→Int→List Int
 | 0,_=>[]
 | s+1,v=>v % 256::Nu s (v / 256)
def Fg:List Int→Int
 | []=>0
 | b::l=>b+256*Fg l
def Hv(w:Bool):Nat→List Int→List Aa
 | _,[]=>[]
 | a,b::l=>⟨w,(a:Int),b⟩::Hv w (a+1) l
def Jr:List Int→Nat→List Int→List Int
 | B,_,[]=>B
 | B,a,b::l=>Jr (B.set a b) (a+1) l
def Bk(B:List Int)(a s:Nat):List Int:=(B.drop a).take s
theorem Sj(s:Nat)(v:Int):(Nu s v).length=s:=by induction s generalizing v with|zero=>rfl|succ s ih=>simp[Nu,ih]
theorem L6(w:Bool)(a:Nat)(l:List Int):(Hv w a l).length=l.length:=by induction l generalizing a with|nil=>rfl|cons b l ih=>simp[Hv,ih]
theorem M7(B:List Int)(a:Nat)(l:List Int):(Jr B a l).length=B.length:=by induction l generalizing B a with|nil=>rfl|cons b l ih=>simp[Jr,ih]
theorem Ei{B:List Int}{a s:Nat}(h:a+s≤B.length):(Bk B a s).length=s:=by simp[Bk];omega
theorem Ld(B:List Int)(a:Nat):Bk B a 0=[]:=by simp[Bk]
theorem P1{B:List Int}{a s:Nat}(h:a<B.length):Bk B a (s+1)=B.getD a 0::Bk B (a+1) s:=by
 unfold Bk;rw[List.drop_eq_getElem_cons h,List.take_succ_cons,C6 _ _ _ h]
theorem Lc{B:List Int}{a s:Nat}(h:a+s<B.length):Bk B a (s+1)=Bk B a s++[B.getD (a+s) 0]:=by
 unfold Bk;rw[J4 _ _ 0 (by simp;omega)]
 congr 2
 simp[List.getD,List.getElem?_drop]
theorem subB_ok{B:List Int}{a s:Nat}(hB:Hn B):Hn (Bk B a s):=fun x hx=>hB x (List.mem_of_mem_drop (List.mem_of_mem_take hx))
theorem Sl{B:List Int}(hB:Hn B)(i:Nat):0≤B.getD i 0∧B.getD i 0<256:=by
 by_cases h:i<B.length
 ·exact hB _ (Re h)
 ·simp[List.getD,h]
theorem Sx(l m:List Int):Fg (l++m)=Fg l+256 ^ l.length*Fg m:=by
 induction l with
 | nil=>simp[Fg]
 | cons b l ih=>simp only[List.cons_append,Fg,ih,List.length_cons,Int.pow_succ];rw[Int.mul_add,Int.add_assoc,← Int.mul_assoc,Int.mul_comm 256 (256 ^ l.length)]
theorem Rv(n:Nat):(0:Int)<256 ^ n:=Int.pow_pos (by decide)
theorem K3{l:List Int}(h:Hn l):0≤Fg l∧Fg l<256 ^ l.length:=by
 induction l with
 | nil=>simp[Fg]
 | cons b l ih=>
  obtain⟨h1,h2⟩:=ih fun x hx=>h x (List.mem_cons_of_mem _ hx);obtain⟨h3,h4⟩:=h b (List.mem_cons_self ..);simp only[Fg,List.length_cons,Int.pow_succ];omega
def Vm(N:Nat)(a n:Int):Bool:=decide (1≤n)&&decide (a+n≤N)
theorem F1{B:List Int}{T:List Aa}{a n:Int}(ha:0≤a)(hB:B.length<4611686018427387904):Ba a n B T=some (Vm B.length a n,T,B):=by
 unfold Ba Vm;rw[cond_false]
 by_cases h1:n<1
 ·rw[show decide (n<(1:Int))=true from decide_eq_true (by omega),cond_true,cond_true];rw[show decide (1≤n)=false from decide_eq_false (by omega),Bool.false_and]
 ·rw[show decide (n<(1:Int))=false from decide_eq_false (by omega),cond_false,show decide (1≤n)=true from decide_eq_true (by omega),Bool.true_and]
  by_cases h2:(B.length:Int)<n
  ·rw[show decide ((B.length:Int)<n)=true from decide_eq_true (by omega),cond_true];rw[show decide (a+n≤(B.length:Int))=false from decide_eq_false (by omega)]
  ·rw[show decide ((B.length:Int)<n)=false from decide_eq_false (by omega),cond_false];rw[Ex (by omega) (by omega),Cs (by omega) (by omega)];rw[show decide (a≤(B.length:Int)-n)=decide (a+n≤(B.length:Int)) from decide_eq_decide.2 (by omega)]
theorem Ud{v b:Int}{i:Nat}(h0:0≤v)(h1:v<256 ^ i)(hb:0≤b)(hb':b<256)(hi:i<8):E0 .or .u64 v (Ht .u64 (C3 b) (Gi (8*(i:Int))))=v+256 ^ i*b:=by
 have e1:(256:Int) ^ i=((2 ^ (8*i):Nat):Int):=by rw[Nat.pow_mul];exact(Int.natCast_pow 256 i).symm
 obtain⟨V,rfl⟩:∃ V:Nat,v=V:=⟨v.toNat,by omega⟩;obtain⟨C,rfl⟩:∃ C:Nat,b=C:=⟨b.toNat,by omega⟩;rw[e1]at h1 ⊢;have h1:V<2 ^ (8*i):=Int.ofNat_lt.1 h1;have hC:C<256:=Int.ofNat_lt.1 hb'
 have hp:2 ^ (8*i)*256≤2 ^ 64:=by
  have:2 ^ (8*i)*2 ^ 8=2 ^ (8*i+8):=by rw[Nat.pow_add]
  have h2:(2:Nat) ^ (8*i+8)≤2 ^ 64:=Nat.pow_le_pow_right (by decide) (by omega);omega
 have hlt:V+C*2 ^ (8*i)<2 ^ 64:=by
  have:C*2 ^ (8*i)≤255*2 ^ (8*i):=Nat.mul_le_mul_right _ (by omega);omega
 rw[Ex (by omega) (by omega),Cs (by omega) (by omega)]
 have e2:Ht .u64 (C:Int) (8*(i:Int))=((C*2 ^ (8*i):Nat):Int):=by
  unfold Ht
  have:(8*(i:Int)).toNat=8*i:=by omega
  rw[this,show min (8*i) IntKind.u64.bits=8*i by simp[IntKind.bits];omega]
  have e3:(C:Int)*2 ^ (8*i)=((C*2 ^ (8*i):Nat):Int):=by rw[Int.natCast_mul,Int.natCast_pow];rfl
  rw[e3];exact J6 .u64 rfl (by simp[IntKind.bits];omega)
 rw[Uc .u64 rfl (8*i) h1 (by simpa [IntKind.bits] using hlt) e2];rw[Int.natCast_add,Int.natCast_mul,Int.mul_comm]
theorem O3{B:List Int}(hB:Hn B)(hL:B.length<4611686018427387904){s:Nat}(hs:s≤8):∀(k i cur:Nat) (v:Int) (t:List Aa),i+k=s→cur+k≤B.length→0≤v→v<256 ^ i→t.length+k≤room→
  Cn (A8 (s:Int) B) ((cur:Int),v,(i:Int),t)=some (v+256 ^ i*Fg (Bk B cur k),t++Hv false cur (Bk B cur k))
 | 0,i,cur,v,t,hi,hc,h0,h1,hr=>by
  obtain rfl:i=s:=by omega
  refine B1 ?_;unfold A8;simp only;rw[Ks,cond_false,Ld];simp[Fg,Hv]
 | k+1,i,cur,v,t,hi,hc,h0,h1,hr=>by
  obtain⟨b0,b1⟩:=Sl hB cur
  have step:A8 (s:Int) B ((cur:Int),v,(i:Int),t)=some (.next (((cur+1:Nat):Int),v+256 ^ i*B.getD cur 0,((i+1:Nat):Int),t++[⟨false,(cur:Int),B.getD cur 0⟩])):=by
   unfold A8;simp only;rw[Hz (by omega),cond_true,Ah (Sp (by omega)),Ah (by simp;omega),Ah (by rw[Ex (by omega) (by omega)];omega),Cb,Ud h0 h1 b0 b1 (by omega),w1 (by omega),Cs (by omega) (by omega)]
   rfl
  rw[Ds step,O3 hB hL hs k (i+1) (cur+1) _ _ (by omega) (by omega) (by have:=Int.mul_nonneg (Int.le_of_lt (Rv i)) b0;omega) (by
   rw[Int.pow_succ];have:256 ^ i*B.getD cur 0≤256 ^ i*255:=Int.mul_le_mul_of_nonneg_left (by omega) (Int.le_of_lt (Rv i))
   omega) (by simp;omega),P1 (by omega)]
  simp only[Fg,Hv,Int.pow_succ,List.append_assoc,List.singleton_append];rw[Int.mul_add,Int.add_assoc,Int.mul_assoc]
theorem Pr{B:List Int}{T:List Aa}(hB:Hn B)(hL:B.length<4611686018427387904){s cur:Nat}(hs:s≤8)(hc:cur+s≤B.length)(hr:T.length+s≤room) :
  Bu (cur:Int) (s:Int) B T=some (Fg (Bk B cur s),T++Hv false cur (Bk B cur s),B):=by
 unfold Bu;have:=O3 hB hL hs s 0 cur 0 T (by omega) hc (by decide) (by decide) hr;rw[show((0:Nat):Int)=0 from rfl]at this;rw[this]
 simp
theorem V8{v:Int}:R3 .u64 v (8:Int)=v / 256:=by
 unfold R3
 have:min (8:Int).toNat IntKind.u64.bits=8:=by decide
 rw[this,Rc]
 rfl
theorem O8{s:Nat}(hs:s≤8):∀(k i cur:Nat) (v:Int) (t:List Aa) (B:List Int),i+k=s→cur+k≤B.length→B.length<4611686018427387904→t.length+k≤room→
  Cn (A1 (s:Int)) ((cur:Int),v,(i:Int),t,B)=some (t++Hv true cur (Nu k v),Jr B cur (Nu k v))
 | 0,i,cur,v,t,B,hi,hc,hL,hr=>by
  obtain rfl:i=s:=by omega
  refine B1 ?_;unfold A1;simp only;rw[Ks,cond_false];simp[Nu,Hv,Jr]
 | k+1,i,cur,v,t,B,hi,hc,hL,hr=>by
  have step:A1 (s:Int) ((cur:Int),v,(i:Int),t,B)=some (.next (((cur+1:Nat):Int),v / 256,((i+1:Nat):Int),t++[⟨true,(cur:Int),v % 256⟩],B.set cur (v % 256))):=by
   unfold A1;simp only;rw[Hz (by omega),cond_true,Ah (Sp (by omega)),Ah (by simp;omega),Cb,V8,Te,w1 (by omega),Cs (by omega) (by omega)]
   rfl
  rw[Ds step,O8 hs k (i+1) (cur+1) _ _ _ (by omega) (by simp;omega) (by simpa using hL) (by simp;omega)];simp[Nu,Hv,Jr]
theorem N3{B:List Int}{T:List Aa}{v:Int}(hL:B.length<4611686018427387904){s cur:Nat}(hs:s≤8)(hc:cur+s≤B.length)(hr:T.length+s≤room) :
  Bq (cur:Int) (s:Int) v B T=some (T++Hv true cur (Nu s v),Jr B cur (Nu s v)):=by
 unfold Bq;have:=O8 hs s 0 cur v T B (by omega) hc hL hr;rw[show((0:Nat):Int)=0 from rfl]at this;rw[this]
 rfl
def Ii(B:List Int)(s:Nat):Nat→Nat→List Int×Bool×List Aa
 | 0,_=>([],true,[])
 | n+1,cur=>if cur+s≤B.length then(Fg (Bk B cur s)::(Ii B s n (cur+s)).1,(Ii B s n (cur+s)).2.1,Hv false cur (Bk B cur s)++(Ii B s n (cur+s)).2.2) else([],false,[])
def Nf(s:Nat):List Int→Nat→List Int→Bool×List Aa×List Int
 | [],_,B=>(true,[],B)
 | v::l,cur,B=>if cur+s≤B.length then((Nf s l (cur+s) (Jr B cur (Nu s v))).1,Hv true cur (Nu s v)++(Nf s l (cur+s) (Jr B cur (Nu s v))).2.1,(Nf s l (cur+s) (Jr B cur (Nu s v))).2.2) else(false,[],B)
theorem S5{B:List Int}{s:Nat}(n cur:Nat):(Ii B s n cur).2.2.length≤n*s:=by
 induction n generalizing cur with
 | zero=>simp[Ii]
 | succ n ih=>
  unfold Ii
  split
  ·have:=ih (cur+s);simp[L6,Ei ‹_›,Nat.succ_mul];omega
  ·simp
def O7(bits:Int):Bool:=bits==8 || bits==16 || bits==32 || bits==64
def Gp(bits n:Int):Bool:=O7 bits&&decide (0≤n)&&decide (n≤16)
theorem wdB_cases{bits:Int}(h:O7 bits=true):bits=8∨bits=16∨bits=32∨bits=64:=by
 simp only[O7,Bool.or_eq_true,beq_iff_eq]at h;omega
theorem K1(bits:Int):B8 bits=some (bif O7 bits then bits / 8 else 0):=by
 by_cases h:O7 bits=true
 ·rw[h,cond_true];rcases wdB_cases h with rfl|rfl|rfl|rfl<;>decide
 ·have h':O7 bits=false:=by simpa using h
  rw[h',cond_false];simp only[O7,Bool.or_eq_false_iff]at h';obtain⟨⟨⟨h1,h2⟩,h3⟩,h4⟩:=h';unfold B8;rw[h1,cond_false,h2,cond_false,h3,cond_false,h4]
  rfl
theorem Tc{bits:Int}(h:O7 bits=true):∃ s:Nat,bits / 8=(s:Int)∧1≤s∧s≤8∧bits=8*(s:Int)∧Gi (Int.tdiv bits 8)=(s:Int):=by
 rcases wdB_cases h with rfl|rfl|rfl|rfl
 ·exact⟨1,by decide,by decide,by decide,by decide,by decide⟩
 ·exact⟨2,by decide,by decide,by decide,by decide,by decide⟩
 ·exact⟨4,by decide,by decide,by decide,by decide,by decide⟩
 ·exact⟨8,by decide,by decide,by decide,by decide,by decide⟩
theorem Is{N s cur:Nat}(hs:1≤s):Vm N (cur:Int) (s:Int)=decide (cur+s≤N):=by
 unfold Vm;rw[show decide (1≤(s:Int))=true from decide_eq_true (by omega),Bool.true_and];exact decide_eq_decide.2 (by omega)
theorem Rx{B:List Int}(hB:Hn B)(hL:B.length<4611686018427387904){s:Nat}(hs:s≤8)(hs1:1≤s){N:Nat}(hN:N≤16):∀(k i cur:Nat) (done:List Int) (t:List Aa),i+k=N→done.length=i→t.length+k*8≤room→
  Cn (A9 (N:Int) (s:Int)) ((cur:Int),(i:Int),done++List.replicate k 0,t,B) =
   some (if(Ii B s k cur).2.1=true then .inl (done++(Ii B s k cur).1,t++(Ii B s k cur).2.2,B) else .inr (t++(Ii B s k cur).2.2,B))
 | 0,i,cur,done,t,hi,hd,hr=>by
  obtain rfl:i=N:=by omega
  refine B1 ?_;unfold A9;simp only;rw[List.length_replicate,Cb,Ks,cond_false];simp[Ii]
 | k+1,i,cur,done,t,hi,hd,hr=>by
  by_cases hc:cur+s≤B.length
  ·have step:A9 (N:Int) (s:Int) ((cur:Int),(i:Int),done++List.replicate (k+1) 0,t,B)=some (.next (((cur+s:Nat):Int),((i+1:Nat):Int),(done++[Fg (Bk B cur s)])++List.replicate k 0,t++Hv false cur (Bk B cur s),B)):=by
    unfold A9;simp only;rw[List.length_replicate,Cb,Hz (by omega),cond_true,F1 (by omega) hL,Option.bind_some,Ah rfl,Is hs1];simp only;rw[show decide (cur+s≤B.length)=true from decide_eq_true (by omega),Bool.not_true,cond_false,Pr hB hL hs hc (by omega),Option.bind_some,Ah rfl,Ah (Sp (by simp;omega)),w1 (by omega),Cs (n:=(s:Int)) (by omega) (by omega),Cs (by omega) (by omega),Cb]
    have e:(done++List.replicate (k+1) (0:Int)).set i (Fg (Bk B cur s))=(done++[Fg (Bk B cur s)])++List.replicate k 0:=by
     rw[List.replicate_succ,List.set_append_right _ _ (by omega),hd,Nat.sub_self,List.set_cons_zero,List.append_assoc];rfl
    rw[e]
    simp
   rw[Ds step,Rx hB hL hs hs1 hN k (i+1) (cur+s) _ _ (by omega) (by simp[hd]) (by simp[L6,Ei hc];omega)];rw[Ii,if_pos hc];simp only[List.append_assoc,List.singleton_append]
  ·rw[Ii,if_neg hc];refine B1 ?_;unfold A9;simp only;rw[List.length_replicate,Cb,Hz (by omega),cond_true,F1 (by omega) hL,Option.bind_some,Ah rfl,Is hs1];simp only;rw[show decide (cur+s≤B.length)=false from decide_eq_false (by omega),Bool.not_false,cond_true]
   simp
def RD(a bits n:Int)(B:List Int)(T:List Aa):List Int×Int×List Aa×List Int:=
 if Gp bits n=true then(if(Ii B (bits / 8).toNat n.toNat a.toNat).2.1=true then((Ii B (bits / 8).toNat n.toNat a.toNat).1,0,T++(Ii B (bits / 8).toNat n.toNat a.toNat).2.2,B) else([],8,T++(Ii B (bits / 8).toNat n.toNat a.toNat).2.2,B)) else([],1,T,B)
theorem Oy{bits n:Int}:(bif bif (bif O7 bits then bits / 8 else 0)==0 then true else decide (n<0) then true else decide (16<n)) = !Gp bits n:=by
 unfold Gp
 cases h:O7 bits with
 | false=>rfl
 | true=>
  obtain⟨s,h1,h2,h3,_⟩:=Tc h;rw[cond_true,h1,show((s:Int)==0)=false by simp;omega,cond_false,Bool.true_and]
  by_cases h4:n<0
  ·rw[decide_eq_true h4,cond_true,decide_eq_false (show ¬ (0≤n) by omega)];rfl
  ·rw[decide_eq_false h4,cond_false,decide_eq_true (show 0≤n by omega),Bool.true_and]
   by_cases h5:16<n
   ·rw[decide_eq_true h5,decide_eq_false (show ¬ n≤16 by omega)];rfl
   ·rw[decide_eq_false h5,decide_eq_true (show n≤16 by omega)];rfl
theorem Lt{a bits n:Int}{B:List Int}{T:List Aa}(ha:0≤a)(hB:Hn B)(hL:B.length<4611686018427387904)(hr:T.length+128≤room):Bh a bits n B T=some (RD a bits n B T):=by
 unfold Bh RD;rw[K1,Option.bind_some,Oy]
 cases hm:Gp bits n with
 | false=>simp[Ec]
 | true=>
  simp only[Gp,Bool.and_eq_true,decide_eq_true_iff]at hm;obtain⟨⟨hw,h0⟩,h1⟩:=hm;obtain⟨s,h2,h3,h4,h5,h6⟩:=Tc hw;obtain⟨N,rfl⟩:∃ N:Nat,n=N:=⟨n.toNat,by omega⟩;obtain⟨A,rfl⟩:∃ A:Nat,a=A:=⟨a.toNat,by omega⟩;rw[Bool.not_true,cond_false,hw,cond_true,h2,Ah ⟨h0,Int.le_refl _,by have:room=1099511627776:=rfl;omega⟩,Cb,Cb,Cb];have:=Rx hB hL h4 h3 (N:=N) (by omega) N 0 A [] T (by omega) rfl (by omega);rw[List.nil_append,show((0:Nat):Int)=0 from rfl]at this;rw[this]
  by_cases hk:(Ii B s N A).2.1=true
  ·rw[if_pos hk,if_pos hk];rfl
  ·rw[if_neg hk,if_neg hk,Option.bind_some]
   show(Ec (some (.next _)) _).bind _=_
   unfold Ec;rw[Option.bind_some];simp only;rw[B1 (x:=(([]:List Int),(8:Int),T++(Ii B s N A).2.2,B)) rfl]
   rfl
theorem R7{s:Nat}(hs:s≤8)(hs1:1≤s){L:List Int}(hN:L.length≤16):∀(k i cur:Nat) (t:List Aa) (B:List Int),i+k=L.length→B.length<4611686018427387904→t.length+k*8≤room→
  Cn (A4 L (s:Int)) ((cur:Int),(i:Int),t,B) =
   some (if(Nf s (L.drop i) cur B).1=true then .inl (t++(Nf s (L.drop i) cur B).2.1,(Nf s (L.drop i) cur B).2.2) else .inr (t++(Nf s (L.drop i) cur B).2.1,(Nf s (L.drop i) cur B).2.2))
 | 0,i,cur,t,B,hi,hL,hr=>by
  obtain rfl:i=L.length:=by omega
  refine B1 ?_;unfold A4;simp only;rw[Ks,cond_false,List.drop_length];simp[Nf]
 | k+1,i,cur,t,B,hi,hL,hr=>by
  have hd:L.drop i=L.getD i 0::L.drop (i+1):=by rw[List.drop_eq_getElem_cons (by omega),C6 _ _ _ (by omega)]
  by_cases hc:cur+s≤B.length
  ·have step:A4 L (s:Int) ((cur:Int),(i:Int),t,B)=some (.next (((cur+s:Nat):Int),((i+1:Nat):Int),t++Hv true cur (Nu s (L.getD i 0)),Jr B cur (Nu s (L.getD i 0)))):=by
    unfold A4;simp only;rw[Hz (by omega),cond_true,Ah (Sp (by omega)),F1 (by omega) hL,Option.bind_some,Ah rfl,Is hs1];simp only;rw[show decide (cur+s≤B.length)=true from decide_eq_true (by omega),Bool.not_true,cond_false,Cb,N3 hL hs hc (by omega),Option.bind_some,Ah (by rw[M7]),w1 (by omega),Cs (n:=(s:Int)) (by omega) (by omega),Cs (by omega) (by omega)]
    simp
   rw[Ds step,R7 hs hs1 hN k (i+1) (cur+s) _ _ (by omega) (by rw[M7];exact hL) (by simp[L6,Sj];omega)];rw[hd,Nf,if_pos hc];simp only[List.append_assoc]
  ·rw[hd,Nf,if_neg hc];refine B1 ?_;unfold A4;simp only;rw[Hz (by omega),cond_true,Ah (Sp (by omega)),F1 (by omega) hL,Option.bind_some,Ah rfl,Is hs1];simp only;rw[show decide (cur+s≤B.length)=false from decide_eq_false (by omega),Bool.not_false,cond_true]
   simp
def WR(a bits:Int)(L:List Int)(B:List Int)(T:List Aa):Int×List Aa×List Int:=
 if Gp bits L.length=true then(if(Nf (bits / 8).toNat L a.toNat B).1=true then 0 else 8,T++(Nf (bits / 8).toNat L a.toNat B).2.1,(Nf (bits / 8).toNat L a.toNat B).2.2) else(1,T,B)
theorem Rl{bits:Int}{n:Nat}:(bif (bif O7 bits then bits / 8 else 0)==0 then true else decide (16<(n:Int))) = !Gp bits n:=by
 rw[← Oy,show decide ((n:Int)<0)=false from decide_eq_false (by omega)]
 cases(bif O7 bits then bits / 8 else 0)==0<;>rfl
theorem Su{a bits:Int}{L B:List Int}{T:List Aa}(ha:0≤a)(hL:B.length<4611686018427387904)(hr:T.length+128≤room):B3 a bits L B T=some (WR a bits L B T):=by
 unfold B3 WR;rw[K1,Option.bind_some,Rl]
 cases hm:Gp bits L.length with
 | false=>simp[Ec]
 | true=>
  simp only[Gp,Bool.and_eq_true,decide_eq_true_iff]at hm;obtain⟨⟨hw,h0⟩,h1⟩:=hm;obtain⟨s,h2,h3,h4,h5,h6⟩:=Tc hw;obtain⟨A,rfl⟩:∃ A:Nat,a=A:=⟨a.toNat,by omega⟩;rw[Bool.not_true,cond_false,hw,cond_true,h2,Cb,Cb];have:=R7 h4 h3 (L:=L) (by omega) L.length 0 A T B (by omega) hL (by omega);rw[List.drop_zero,show((0:Nat):Int)=0 from rfl]at this;rw[this]
  by_cases hk:(Nf s L A B).1=true
  ·rw[if_pos hk,if_pos rfl,if_pos hk];rfl
  ·rw[if_neg hk,if_pos rfl,if_neg hk,Option.bind_some]
   show(Ec (some (.next _)) _).bind _=_
   unfold Ec;rw[Option.bind_some];simp only;rw[B1 (x:=((8:Int),T++(Nf s L A B).2.1,(Nf s L A B).2.2)) rfl]
   rfl
theorem D7:room=1099511627776:=rfl
theorem Mx{b:List Int}(h:b.length≤4096):B7 b=some ((true,⟨b,[]⟩),0):=by
 unfold B7 As;rw[decide_eq_false (by omega),cond_false,Ah (by rw[D7];omega)]
 rfl
theorem Pp{b:List Int}(h:4096<b.length):B7 b=some ((false,default),4):=by
 unfold B7;rw[decide_eq_true (by omega),cond_true]
theorem Ls{B:List Int}{T:List Aa}(h:B.length≤room):Bj B T=some (B,T,B):=by
 unfold Bj As;rw[Ah h];rfl
theorem Ip{B:List Int}{T:List Aa}(h:T.length≤room):Bb B T=some (T,T,B):=by
 unfold Bb Au;rw[Ah (by simpa using h)];rfl
theorem H6{l:List Int}(h:l.length<4611686018427387904):A5 l l=some true:=by
 unfold A5;rw[show(((l.length:Int))!=(l.length:Int))=false by simp,cond_false]
 have:Cn (A6 l l) (0:Int)=some (.inl ()):=Mw _ (fun i:Nat=>(i:Int)) _ l.length (fun i hi=>by
  unfold A6
  rw[Hz hi,cond_true,Ah (Sp hi),Ah (Sp hi),show((l.getD ((i:Int)).toNat 0)!=l.getD ((i:Int)).toNat 0)=false by simp,cond_false,w1 (by omega)]) (by
  unfold A6
  rw[Ks,cond_false])
 rw[this];rfl
theorem Je{l:List Aa}(h:l.length<4611686018427387904):A7 l l=some true:=by
 unfold A7;rw[show(((l.length:Int))!=(l.length:Int))=false by simp,cond_false]
 have:Cn (Ax l l) (0:Int)=some (.inl ()):=Mw _ (fun i:Nat=>(i:Int)) _ l.length (fun i hi=>by
  unfold Ax;rw[Hz hi,cond_true,Ah (Sp hi),Ah (Sp hi)];simp only[beq_self_eq_true,Bool.and_self,Bool.not_true,cond_false]
  rw[w1 (by omega)]) (by
  unfold Ax
  rw[Ks,cond_false])
 rw[this];rfl
theorem Qe:WR 2 16 [258] [9,9,9,9] []=(0,[⟨true,2,2⟩,⟨true,3,1⟩],[9,9,2,1]):=by decide
theorem Pb:RD 0 32 1 [9,9,2,1] [⟨true,2,2⟩,⟨true,3,1⟩]=([16910601],0,[⟨true,2,2⟩,⟨true,3,1⟩,⟨false,0,9⟩,⟨false,1,9⟩,⟨false,2,2⟩,⟨false,3,1⟩],[9,9,2,1]):=by decide
theorem Pc:RD 1 32 1 [9,9,2,1] [⟨true,2,2⟩,⟨true,3,1⟩,⟨false,0,9⟩,⟨false,1,9⟩,⟨false,2,2⟩,⟨false,3,1⟩]=([],8,[⟨true,2,2⟩,⟨true,3,1⟩,⟨false,0,9⟩,⟨false,1,9⟩,⟨false,2,2⟩,⟨false,3,1⟩],[9,9,2,1]):=by decide
theorem K5:Hn [9,9,2,1]:=by unfold Hn;decide
theorem Pq:m_locksteplaw12_awake=some true:=by
 unfold m_locksteplaw12_awake;rw[Mx (by decide),Option.bind_some]
 dsimp only
 rw[cond_true,show((0:Int)!=0)=false by decide,cond_false,Su (by decide) (by decide) (by decide),Qe,Option.bind_some]
 dsimp only
 rw[Ah (by decide),Lt (by decide) K5 (by decide) (by decide),Pb,Option.bind_some]
 dsimp only
 rw[Ah (by decide),Lt (by decide) K5 (by decide) (by decide),Pc,Option.bind_some]
 dsimp only
 rw[Ah (by decide),Ls (by decide),Option.bind_some]
 dsimp only
 rw[Ah (by decide),Ah (by decide),Ah (by decide),Ah (by decide)];rw[Ip (by decide),Option.bind_some]
 dsimp only
 rw[Ah (by decide),F1 (by decide) (by decide),Option.bind_some]
 dsimp only
 rw[Ah (by decide),F1 (by decide) (by decide),Option.bind_some]
 dsimp only
 rw[Ah (by decide)]
 rfl
theorem Rk{bits n:Int}(h:Gp bits n=true):(bits / 8).toNat≤8∧n.toNat≤16:=by
 simp only[Gp,Bool.and_eq_true,decide_eq_true_iff]at h;obtain⟨⟨hw,h0⟩,h1⟩:=h;obtain⟨s,h2,h3,h4,_⟩:=Tc hw;omega
theorem Oj(a bits n:Int)(B:List Int)(T:List Aa):(RD a bits n B T).2.2.2=B∧(RD a bits n B T).2.2.1.length≤T.length+128:=by
 unfold RD
 split
 ·rename_i h
  obtain⟨h1,h2⟩:=Rk h;have h3:=S5 (B:=B) (s:=(bits / 8).toNat) n.toNat a.toNat;have h5:n.toNat*(bits / 8).toNat≤16*8:=Nat.mul_le_mul (by omega) h1
  split<;>(refine⟨rfl,?_⟩;rw[List.length_append];omega)
 ·exact⟨rfl,by simp⟩
theorem Tb(w:Bool)(a:Nat)(l m:List Int):Hv w a (l++m)=Hv w a l++Hv w (a+l.length) m:=by
 induction l generalizing a with
 | nil=>simp[Hv]
 | cons b l ih=>simp only[List.cons_append,Hv,ih,List.length_cons];rw[show a+1+l.length=a+(l.length+1) by omega]
theorem J3{B:List Int}{cur:Nat}:∀(h k:Nat),cur+h+k≤B.length→Bk B cur (h+k)=Bk B cur h++Bk B (cur+h) k
 | h,0,_=>by rw[Ld];simp
 | h,k+1,hk=>by
  rw[← Nat.add_assoc,Lc (by omega),J3 h k (by omega),Lc (a:=cur+h) (by omega),List.append_assoc,show cur+(h+k)=cur+h+k by omega]
theorem Oe{h:Nat}{x y:Int}(h1:1≤h)(h4:h≤4)(x0:0≤x)(x1:x<256 ^ h)(y0:0≤y)(y1:y<256 ^ h):C3 (x+Ht .u64 y (C3 (Gi (8*(h:Int)))))=x+256 ^ h*y:=by
 have e1:(256:Int) ^ h=((2 ^ (8*h):Nat):Int):=by rw[Nat.pow_mul];exact(Int.natCast_pow 256 h).symm
 have hp:(2:Nat) ^ (8*h)*2 ^ (8*h)≤2 ^ 64:=by rw[← Nat.pow_add];exact Nat.pow_le_pow_right (by decide) (by omega)
 obtain⟨X,rfl⟩:∃ X:Nat,x=X:=⟨x.toNat,by omega⟩;obtain⟨Y,rfl⟩:∃ Y:Nat,y=Y:=⟨y.toNat,by omega⟩;rw[e1]at x1 y1 ⊢;have x1:X<2 ^ (8*h):=Int.ofNat_lt.1 x1;have y1:Y<2 ^ (8*h):=Int.ofNat_lt.1 y1;have hm:(Y+1)*2 ^ (8*h)≤2 ^ (8*h)*2 ^ (8*h):=Nat.mul_le_mul_right _ y1;rw[Nat.succ_mul]at hm;rw[Ex (by omega) (by omega),Cs (n:=8*(h:Int)) (by omega) (by omega)]
 have e2:Ht .u64 (Y:Int) (8*(h:Int))=((Y*2 ^ (8*h):Nat):Int):=by
  unfold Ht
  have:(8*(h:Int)).toNat=8*h:=by omega
  rw[this,show min (8*h) IntKind.u64.bits=8*h by simp[IntKind.bits];omega]
  have e3:(Y:Int)*2 ^ (8*h)=((Y*2 ^ (8*h):Nat):Int):=by rw[Int.natCast_mul,Int.natCast_pow];rfl
  rw[e3];exact J6 .u64 rfl (by simp[IntKind.bits];omega)
 rw[e2]
 have h64:(2:Nat) ^ 64=18446744073709551616:=by decide
 rw[← Int.natCast_mul,Nat.mul_comm (2 ^ (8*h)) Y];rw[Cs (by omega) (by omega)]
theorem reads12(b:List Int)(a t:Int)(hb:Hn b)(ha:0≤a∧a<65536)(ht:0≤t∧t<256):Bg b a t=some true:=by
 unfold Bg;rw[Pq,Option.bind_some,Bool.not_true,cond_false]
 by_cases h4:4096<b.length
 ·rw[Pp h4,Option.bind_some]
  dsimp only
  rw[cond_false,Option.bind_some]
  dsimp only
  rw[cond_false,decide_eq_true (by omega)]
 ·rw[Mx (by omega),Option.bind_some]
  dsimp only
  rw[cond_true,Option.bind_some]
  dsimp only
  rw[cond_true,show((0:Int)!=0)=false by decide,cond_false,cond_false]
  obtain⟨h,hh,hh1,hh4,hidx⟩:∃ h:Nat,([16,32,64]:List Int).getD (Int.tmod (Gi t) 3).toNat 0=16*(h:Int)∧(h=1∨h=2∨h=4)∧h≤4∧Ey (Int.tmod (Gi t) 3) ([16,32,64]:List Int).length:=by
   rw[Ex (by omega) (by omega),Int.tmod_eq_emod_of_nonneg ht.1]
   have h3:t % 3=0∨t % 3=1∨t % 3=2:=by omega
   rcases h3 with e|e|e<;>rw[e]
   ·exact⟨1,rfl,.inl rfl,by omega,by decide⟩
   ·exact⟨2,rfl,.inr (.inl rfl),by omega,by decide⟩
   ·exact⟨4,rfl,.inr (.inr rfl),by omega,by decide⟩
  rw[hh,Ah hidx]
  have ed:Gi (Int.tdiv (16*(h:Int)) 2)=8*(h:Int):=by rw[Int.tdiv_eq_ediv_of_nonneg (by omega),Ex (by omega) (by omega)];omega
  rw[ed,Cs (n:=a) (by omega) (by omega)]
  have w1':O7 (16*(h:Int))=true:=by rcases hh1 with rfl|rfl|rfl<;>decide
  have w2':O7 (8*(h:Int))=true:=by rcases hh1 with rfl|rfl|rfl<;>decide
  have m1':Gp (16*(h:Int)) 1=true:=by unfold Gp;rw[w1'];decide
  have m2':Gp (8*(h:Int)) 2=true:=by unfold Gp;rw[w2'];decide
  obtain⟨A,rfl⟩:∃ A:Nat,a=A:=⟨a.toNat,by omega⟩
  have R1:RD A (16*(h:Int)) 1 b []=if A+(h+h)≤b.length then([Fg (Bk b A (h+h))],0,Hv false A (Bk b A (h+h)),b) else([],8,[],b):=by
   unfold RD;rw[if_pos m1',show(16*(h:Int) / 8).toNat=h+h by omega,Cb,show(1:Int).toNat=0+1 from rfl,Ii]
   split
   ·simp[Ii]
   ·rfl
  have R2:RD A (8*(h:Int)) 2 b []=if A+(h+h)≤b.length then([Fg (Bk b A h),Fg (Bk b (A+h) h)],0,Hv false A (Bk b A h)++Hv false (A+h) (Bk b (A+h) h),b) else([],8,if A+h≤b.length then Hv false A (Bk b A h) else[],b):=by
   unfold RD;rw[if_pos m2',show(8*(h:Int) / 8).toNat=h by omega,Cb,show(2:Int).toNat=0+1+1 from rfl,Ii]
   by_cases c1:A+(h+h)≤b.length
   ·rw[if_pos c1,if_pos (show A+h≤b.length by omega),Ii,if_pos (show A+h+h≤b.length by omega)];simp[Ii]
   ·rw[if_neg c1]
    by_cases c2:A+h≤b.length
    ·rw[if_pos c2,Ii,if_neg (show ¬ A+h+h≤b.length by omega),if_pos c2]
     simp
    ·rw[if_neg c2,if_neg c2]
     rfl
  obtain⟨f1,f2⟩:=Oj A (16*(h:Int)) 1 b [];obtain⟨g1,g2⟩:=Oj A (8*(h:Int)) 2 b [];rw[List.length_nil]at f2 g2;rw[Lt (by omega) hb (by omega) (by rw[D7];simp),Option.bind_some,Ah (by rw[f1]),Lt (by omega) hb (by omega) (by rw[D7];simp),Option.bind_some,Ah (by rw[g1])];rw[f1,g1,Ls (by rw[D7];omega),Option.bind_some,Ah rfl]
  dsimp only
  rw[H6 (by omega),Option.bind_some,Bool.not_true,cond_false,Ls (by rw[D7];omega),Option.bind_some,Ah rfl]
  dsimp only
  rw[H6 (by omega),Option.bind_some,Bool.not_true,cond_false];rw[R1,R2]at *
  by_cases c1:A+(h+h)≤b.length
  ·rw[if_pos c1]at *;rw[if_pos c1]
   dsimp only at *
   rw[show((0:Int)!=0)=false by decide,cond_false];rw[Ah (fun _=>⟨by decide,by simp⟩),Ah (fun _=>⟨by decide,by simp⟩),Ah (fun _=>⟨by decide,by simp⟩)];rw[show C3 (8*(h:Int))=C3 (Gi (8*(h:Int))) by rw[Ex (by omega) (by omega)]];rw[Ah (fun _=>by rw[Ex (by omega) (by omega),Cs (by omega) (by omega)];omega)];have n1:=K3 (subB_ok hb:Hn (Bk b A h));have n2:=K3 (subB_ok hb:Hn (Bk b (A+h) h));rw[Ei (by omega)]at n1;rw[Ei (by omega)]at n2
   have e5:C3 (([Fg (Bk b A h),Fg (Bk b (A+h) h)]:List Int).getD ((0:Int)).toNat 0+Ht .u64 (([Fg (Bk b A h),Fg (Bk b (A+h) h)]:List Int).getD ((1:Int)).toNat 0) (C3 (Gi (8*(h:Int)))))=Fg (Bk b A (h+h)):=by
    show C3 (Fg (Bk b A h)+Ht .u64 (Fg (Bk b (A+h) h)) (C3 (Gi (8*(h:Int)))))=_
    rw[Oe (by omega) hh4 n1.1 n1.2 n2.1 n2.2,J3 h h (by omega),Sx,Ei (by omega)]
   rw[e5]
   have e6:Hv false A (Bk b A (h+h))=Hv false A (Bk b A h)++Hv false (A+h) (Bk b (A+h) h):=by rw[J3 h h (by omega),Tb,Ei (by omega)]
   have c:(bif bif bif (0:Int)==0 then((([Fg (Bk b A (h+h))]:List Int).length:Int)==1) else false then((([Fg (Bk b A h),Fg (Bk b (A+h) h)]:List Int).length:Int)==2) else false then((([Fg (Bk b A (h+h))]:List Int).getD ((0:Int)).toNat 0)==Fg (Bk b A (h+h))) else false)=true:=by
    show(bif true then(Fg (Bk b A (h+h))==Fg (Bk b A (h+h))) else false)=true
    simp
   rw[c,cond_true,Ip (by rw[D7];omega),Option.bind_some,Ah rfl]
   dsimp only
   rw[Ip (by rw[D7];omega),Option.bind_some,Ah rfl]
   dsimp only
   rw[e6,Je (by omega),Option.bind_some]
  ·rw[if_neg c1]at *;rw[if_neg c1]
   dsimp only at *
   rw[show((8:Int)!=0)=true by decide,cond_true,show((8:Int)==8)=true by decide,cond_true,Ip (by rw[D7];simp),Option.bind_some,Ah rfl]
   rfl
theorem wf_u8{n:Int}(h:(Lit.int .u8 n).wf=true):0≤n∧n<256:=by simp[Lit.wf,IntKind.min,IntKind.max,IntKind.bits,IntKind.signed]at h;omega
theorem wf_u16{n:Int}(h:(Lit.int .u16 n).wf=true):0≤n∧n<65536:=by simp[Lit.wf,IntKind.min,IntKind.max,IntKind.bits,IntKind.signed]at h;omega
abbrev Iall(w:World):Nat→Nat→Prop:=fun b o=>∃ u,w.cell? ⟨b,o,none⟩=some u
structure P9(w:World)(cs:List Value)(avs:List AV):Prop where
 len:cs.length=avs.length
 one:∀ j,j<avs.length→(cs.getD j undef).oneCell'=true
 rep:∀ j,j<avs.length→RepV (Iall w) w (cs.getD j undef) (avs.getD j .any)
structure Iu(P:Program)(t:TypeId){α:Type}(e:α→List AV)(ok:α→Prop):Prop where
 get:∀{H:Type} {enc:TypeId×Value→H} {w:World} {base:Nat} {spare:Nat→Bool} {held:Bool} {fuel:Nat} {cs:List Value} {x:DataW H×List MemPlace},
  DataW.trod enc P w base spare held fuel t cs=some x→∃ a,ok a∧P9 w cs (e a)
theorem I5{w:World}{v:Value}{x:AV}(h1:v.oneCell'=true)(h:RepV (Iall w) w v x):P9 w [v] [x]:=
 ⟨rfl,fun j hj=>(by
   have hj0:j=0:=by simpa using hj
   subst hj0
   exact h1),fun j hj=>(by
   have hj0:j=0:=by simpa using hj
   subst hj0
   exact h)⟩
theorem K7{P:Program}{t:TypeId}{k:IntKind}{e:Int→List AV}(ht:P.underlying t=some (.int k))(he:∀ n,e n=[.int k n]):Iu P t e (fun n=>(Lit.int k n).wf=true):=by
 refine⟨?_⟩;intro H enc w base spare held fuel cs x h;obtain⟨n,rfl,rfl,hw⟩:=DataW.trod_int ht h;exact⟨n,hw,by rw[he];exact I5 rfl (.int _ _)⟩
theorem Nw{w:World}{base:Nat}{a:Addr}{n:Nat}{cs:List Value}(h:w.cells? base a n=some cs):cs.length=n∧∀ i,i<n→w.cell? (a.add i)=some (cs.getD i undef):=by
 unfold World.cells? at h
 split at h
 ·have hl:=mapM_some_length h;simp at hl;refine⟨hl,fun i hi=>?_⟩;have:=mapM_some_get h i i (by simp[hi]);rw[this];simp[List.getD,show i<cs.length by omega]
 ·cases h
theorem M5{P:Program}{t el:TypeId}{α:Type}{e:α→List AV}{ok:α→Prop}{sz:Nat}{d:α}{e':List α→List AV}(ht:P.underlying t=some (.slice el))(hs:P.cellsOf el=sz)(h1:1≤sz)(he:Iu P el e ok)(hlen:∀ a,(e a).length=sz)
  (he':∀ l,e' l=[AV.list sz e d l .none]):Iu P t e' (fun l=>(∀ a∈l,ok a)∧l.length≤maxLen):=by
 refine⟨?_⟩;intro H enc w base spare held fuel cs x h;rcases DataW.trod_slice ht h with⟨rfl,rfl⟩|⟨a,len,cap,elems,rest,n,_,rfl,rfl,hb,hl,hm,hlen2,hel,_⟩
 ·exact⟨[],⟨by simp,by simp⟩,by rw[he'];exact I5 rfl (.slice none 0 0 sz _ (fun _=>undef) (Nat.le_refl _) (by simp) (fun h=>by simp at h) (fun _=>rfl) (fun j hj=>by simp at hj) (fun i hi=>by simp at hi) (fun i c hi=>by simp at hi))⟩
 ·have each:∀ i:Fin len,∃ b,ok b∧∃ cs,w.cells? base (a.add (i.1*sz)) sz=some cs∧P9 w cs (e b):=fun⟨i,hi⟩=>by
   have:=hel i hi;rw[hs,List.getElem?_eq_getElem (by omega),Option.bind_eq_some_iff]at this;obtain⟨cs,hcs,htr⟩:=this;obtain⟨b,hb,hr⟩:=he.get htr;exact⟨b,hb,cs,hcs,hr⟩
  let f:Fin len→α:=fun i=>(each i).choose
  have hf:∀ i,ok (f i)∧∃ cs,w.cells? base (a.add (i.1*sz)) sz=some cs∧P9 w cs (e (f i)):=fun i=>(each i).choose_spec
  have hlf:(List.ofFn f).length=len:=by simp
  refine⟨List.ofFn f,⟨fun b hb=>?_,by simp;omega⟩,?_⟩
  ·obtain⟨i,rfl⟩:=List.mem_ofFn.1 hb;exact(hf i).1
  rw[he'];refine I5 rfl ?_
  have hcell0:∀ i (hi:i<len),∀ c,c<sz→∃ u,w.cell? ((a.add (i*sz)).add c)=some u∧u.oneCell'=true∧RepV (Iall w) w u ((e (f ⟨i,hi⟩)).getD c .any):=fun i hi c hc=>by
   obtain⟨_,cs,hcs,hr⟩:=hf ⟨i,hi⟩;obtain⟨hl,hg⟩:=Nw hcs;exact⟨_,hg c hc,hr.one c (by rw[hlen];exact hc),hr.rep c (by rw[hlen];exact hc)⟩
  have hspot:0<len→a.spot=none:=fun hp=>by
   obtain⟨u,hu,_⟩:=hcell0 0 hp 0 h1;have h2:=World.cell?_spot hu
   simpa [Addr.add] using h2
  have hcell:∀ i (hi:i<len),∀ c,c<sz→∃ u,w.cell? ⟨a.block,a.off+(i*sz+c),none⟩=some u∧u.oneCell'=true∧RepV (Iall w) w u ((e (f ⟨i,hi⟩)).getD c .any):=fun i hi c hc=>by
   obtain⟨u,hu,h1,h2⟩:=hcell0 i hi c hc;have hsp:=hspot (by omega);rw[Cd hsp,Addr.add_lit]at hu;exact⟨u,by rw[← Nat.add_assoc];exact hu,h1,h2⟩
  have hdm:∀ j,j<len*sz→∃ i c,i<len∧c<sz∧j=i*sz+c:=fun j hj=>by
   refine⟨j / sz,j % sz,(Nat.div_lt_iff_lt_mul (by omega)).2 hj,Nat.mod_lt _ (by omega),?_⟩;rw[Nat.mul_comm];exact(Nat.div_add_mod j sz).symm
  unfold AV.list;rw[hlf];refine .slice (some a) len cap sz _ (fun j=>(w.cell? ⟨a.block,a.off+j,none⟩).getD undef) hl hm (fun hp=>⟨a,rfl,hspot hp,fun j hj=>?_,fun j hj=>?_⟩) (fun h=>by cases h) (fun j hj=>?_) (fun i hi=>hlen _) (fun i c hi hc=>?_)
  ·obtain⟨i,c,hi,hc,rfl⟩:=hdm j hj;obtain⟨u,hu,_⟩:=hcell i hi c hc;exact⟨u,hu⟩
  ·obtain⟨i,c,hi,hc,rfl⟩:=hdm j hj;obtain⟨u,hu,_⟩:=hcell i hi c hc;rw[hu];rfl
  ·obtain⟨i,c,hi,hc,rfl⟩:=hdm j hj;obtain⟨u,hu,h1,_⟩:=hcell i hi c hc;simp only[hu];exact h1
  ·obtain⟨u,hu,_,h2⟩:=hcell i hi c hc
   have e1:(List.ofFn f).getD i d=f ⟨i,hi⟩:=by simp[List.getD,hi]
   rw[e1,hu];exact h2
structure Vn(P:Program)(fs:List Field)(off N:Nat){α:Type}(e:α→List AV)(ok:α→Prop):Prop where
 get:∀{H:Type} {enc:TypeId×Value→H} {w:World} {base:Nat} {spare:Nat→Bool} {held:Bool} {n:Nat} {cs:List Value},cs.length=N→
  (∀ f∈fs,∃ x,DataW.trod enc P w base spare held n f.type ((cs.drop f.offset).take (P.cellsOf f.type))=some x)→∃ a,ok a∧P9 w (cs.drop off) (e a)
theorem arg_one{P:Program}{t:TypeId}{α:Type}{e:α→List AV}{ok:α→Prop}(h:Iu P t e ok){x:α→AV}(he:∀ a,e a=[x a]){H:Type}{enc:TypeId×Value→H}{w:World}{base:Nat}{spare:Nat→Bool}{held:Bool}{v:Value}{d:DataW H}{ps:List MemPlace}
  (hv:v.cells = #[v]) (hd:DataW.Trod enc P w base spare held t v d ps):∃ a,ok a∧RepV (Iall w) w v (x a):=by
 obtain⟨fuel,hf⟩:=hd;obtain⟨a,ha,hr⟩:=h.get hf;refine⟨a,ha,?_⟩;have:=hr.rep 0 (by simp[he])
 simpa [hv,he] using this
def okU8(n:Int):Prop:=(Lit.int .u8 n).wf=true
theorem op_5:Iu Try.prog 5 eU8 okU8:=K7 Try.underlying5 (fun _=>rfl)
def okLU8(l:List (Int)):Prop:=(∀ a∈l,okU8 a)∧l.length≤maxLen
theorem op_22:Iu Try.prog 22 V1 okLU8:=M5 (d:=(0:Int)) Try.underlying22 (by kernel_rfl) (by decide) op_5 (fun _=>rfl) (fun _=>rfl)
def okU16(n:Int):Prop:=(Lit.int .u16 n).wf=true
theorem op_52:Iu Try.prog 52 V2 okU16:=K7 Try.underlying52 (fun _=>rfl)
end
end Go.Proofs.Ytbhekciniaeolaa
