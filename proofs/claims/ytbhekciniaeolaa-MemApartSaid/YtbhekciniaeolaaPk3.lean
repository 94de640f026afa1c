/-
  The machine, the program's functions and the laws' arithmetic: part 3 of 3.
-/
import Derived.Test.YtbhekciniaeolaaPk2
import Derived.OpenShut
import Derived.ShutString
import Derived.Test.YtbhekciniaeolaaProg
set_option linter.unusedVariables false
set_option linter.unusedSimpArgs false
namespace Go.Proofs.Ytbhekciniaeolaa
noncomputable section
open Go Go.RowKit
inductive Sh where
 | nx (y:Code)
 | bl (id:Nat)
 | ag (c:Code) (n:Nat)
inductive C9 where
 | run (c:Code) (fs:List Sh)
 | out (e:Exit) (fs:List Sh)
def Pl(P:Program)(Γ:Cu)(K:Exit→St→Prop):List Sh→Exit→St→Prop
 | []=>K
 | .nx y::fs=>Ty P Γ y (Pl P Γ K fs)
 | .bl id::fs=>Gj id (Pl P Γ K fs)
 | .ag c n::fs=>fun e st=>(e = .normal∧Od P Γ c (Pl P Γ K fs) n st)∨(e≠.normal∧Pl P Γ K fs e st)
def GG(P:Program)(Γ:Cu)(K:Exit→St→Prop):C9→St→Prop
 | .run c fs,st=>E4 P Γ c (Pl P Γ K fs) st
 | .out e fs,st=>Pl P Γ K fs e st
def E8:Code→Nat→Nat
 | .exit i,k=>bif Nat.beq i k then 1 else 0
 | .seq a b,k=>Nat.min 2 (E8 a k+E8 b k)
 | .cond _ a b,k=>Nat.min 2 (E8 a k+E8 b k)
 | .loop c,k=>Nat.min 1 (E8 c k)
 | .scope c,k=>Nat.min 1 (E8 c k)
 | .block _ c,k=>E8 c k
 | _,_=>0
def Dn:Code→Nat
 | .region _ _ _=>1
 | .skip=>1
 | .label _=>1
 | .seq a b=>bif Nat.beq (Dn a) 0 then 0 else Dn b
 | .cond _ a b=>Nat.min 2 (Dn a+Dn b)
 | .block i c=>Nat.min 2 (Dn c+E8 c i)
 | .scope c=>Nat.min 2 (Dn c)
 | _=>0
def Ri(a:Code):Bool:=match a with | .region _ _ _=>false|a=>Nat.ble 2 (Dn a)
def Jd:Nat→Code ⊕ Exit→List Sh→C9
 | 0,.inl c,fs=>.run c fs
 | 0,.inr e,fs=>.out e fs
 | n+1,.inl c,fs=>
  match c with
  | .skip=>Jd n (.inr .normal) fs
  | .label _=>Jd n (.inr .normal) fs
  | .seq a b=>bif Ri a then .run (.seq a b) fs else Jd n (.inl a) (.nx b::fs)
  | .block id a=>Jd n (.inl a) (.bl id::fs)
  | .exit id=>Jd n (.inr (.exit id)) fs
  | .goto l=>Jd n (.inr (.goto l)) fs
  | .ret=>Jd n (.inr .ret) fs
  | c=>.run c fs
 | n+1,.inr e,fs=>
  match fs with
  | []=>.out e []
  | .nx y::fs=>(match e with | .normal=>Jd n (.inl y) fs|e=>Jd n (.inr e) fs)
  | .bl id::fs=>(match e with | .exit i=>bif Nat.beq i id then Jd n (.inr .normal) fs else Jd n (.inr (.exit i)) fs|e=>Jd n (.inr e) fs)
  | .ag c m::fs=>(match e with | .normal=>(match m with|0=>.out .normal (.ag c 0::fs)|m+1=>Jd n (.inl c) (.ag c m::fs))|e=>Jd n (.inr e) fs)
section
variable {P:Program} {Γ:Cu} {K:Exit→St→Prop}
theorem Aq:∀(n:Nat) (x:Code ⊕ Exit) (fs:List Sh) (st:St),GG P Γ K (Jd n x fs) st→(match x with | .inl c=>E4 P Γ c (Pl P Γ K fs) st | .inr e=>Pl P Γ K fs e st)
 | 0,.inl c,fs,st,h=>h
 | 0,.inr e,fs,st,h=>h
 | n+1,.inl c,fs,st,h=>by
  cases c with
  | skip=>exact Qy (Aq n (.inr .normal) fs st h)
  | label l=>exact Pg (Aq n (.inr .normal) fs st h)
  | seq a b=>
   cases hj:Ri a with
   | true=>simp only[Jd,hj,cond_true]at h;exact h
   | false=>simp only[Jd,hj,cond_false]at h;exact Oi (Aq n (.inl a) (.nx b::fs) st h)
  | block id a=>exact Pf (Aq n (.inl a) (.bl id::fs) st h)
  | exit id=>exact Qr (Aq n (.inr (.exit id)) fs st h)
  | goto l=>exact Qs (Aq n (.inr (.goto l)) fs st h)
  | ret=>exact Sk (Aq n (.inr .ret) fs st h)
  | _=>exact h
 | n+1,.inr e,[],st,h=>h
 | n+1,.inr e,.nx y::fs,st,h=>by
  cases e with
  | normal=>exact Aq n (.inl y) fs st h
  | exit i=>exact Aq n (.inr (.exit i)) fs st h
  | goto l=>exact Aq n (.inr (.goto l)) fs st h
  | ret=>exact Aq n (.inr .ret) fs st h
  | panic c=>exact Aq n (.inr (.panic c)) fs st h
  | outgrown=>exact Aq n (.inr .outgrown) fs st h
 | n+1,.inr e,.bl id::fs,st,h=>by
  cases e with
  | normal=>exact Aq n (.inr .normal) fs st h
  | exit i=>
   show Gj id (Pl P Γ K fs) (.exit i) st
   cases hb:Nat.beq i id with
   | true=>
    obtain rfl:=Nat.eq_of_beq_eq_true hb;simp only[Jd,hb,cond_true]at h;exact Nn (Aq n (.inr .normal) fs st h)
   | false=>
    simp only[Jd,hb,cond_false]at h;exact Nm hb (Aq n (.inr (.exit i)) fs st h)
  | goto l=>exact Aq n (.inr (.goto l)) fs st h
  | ret=>exact Aq n (.inr .ret) fs st h
  | panic c=>exact Aq n (.inr (.panic c)) fs st h
  | outgrown=>exact Aq n (.inr .outgrown) fs st h
 | n+1,.inr e,.ag c m::fs,st,h=>by
  cases e with
  | normal=>
   cases m with
   | zero=>exact h
   | succ m=>exact .inl ⟨rfl,Aq n (.inl c) (.ag c m::fs) st h⟩
  | exit i=>exact .inr ⟨(by intro hh;cases hh),Aq n (.inr (.exit i)) fs st h⟩
  | goto l=>exact .inr ⟨(by intro hh;cases hh),Aq n (.inr (.goto l)) fs st h⟩
  | ret=>exact .inr ⟨(by intro hh;cases hh),Aq n (.inr .ret) fs st h⟩
  | panic ch=>exact .inr ⟨(by intro hh;cases hh),Aq n (.inr (.panic ch)) fs st h⟩
  | outgrown=>exact .inr ⟨(by intro hh;cases hh),Aq n (.inr .outgrown) fs st h⟩
theorem Cc{n:Nat}{c:Code}{fs:List Sh}{st:St}(h:GG P Γ K (Jd n (.inl c) fs) st):E4 P Γ c (Pl P Γ K fs) st:=Aq n (.inl c) fs st h
theorem G5{n:Nat}{e:Exit}{fs:List Sh}{st:St}(h:GG P Γ K (Jd n (.inr e) fs) st):Pl P Γ K fs e st:=Aq n (.inr e) fs st h
def U0(c:Code)(fs:List Sh):C9:=Jd 400 (.inl c) fs
def V3(e:Exit)(fs:List Sh):C9:=Jd 400 (.inr e) fs
def Wn:C9→C9
 | .run _ fs=>V3 .normal fs
 | x=>x
def S8:C9→Option (List Oper×Bool)
 | .run (.region _ ops draw) _=>some (ops.toList,draw)
 | _=>none
def Vb(P:Program)(S:Gt)(n:Nat)(cs:List (Nat×AV))(live names:List Nat)(x:C9)(st:St)(rs:List Gi):Option (St×List Prop×Bool):=
 match S8 x with
 | some (ops,draw)=>Ig P S n cs live names ops draw st rs
 | none=>none
def V8(P:Program)(S:Gt)(n:Nat)(cs:List (Nat×AV))(live names:List Nat)(x:C9)(st:St)(rs:List Gi):St:=
 match Vb P S n cs live names x st rs with
 | some r=>r.1
 | none=>st
def U1(r:Option (St×List Prop×Bool)):Option (Prop×Bool):=
 match r with
 | some r=>some (Md r.2.1,r.2.2)
 | none=>none
theorem gR{x:C9}{st:St}{n:Nat}{H:List (Nat×Own)}(q:RgQ P Γ n H)(live names:List Nat)(cs:List (Nat×AV))(rs:List Gi){O:Prop}(hO:O)
  (k:GG P Γ K (Wn x) (V8 P (Spec P) n cs live names x st rs))
  (h:U1 (Vb P (Spec P) n cs live names x st rs)=some (O,true):=by kernel_rfl) (hh:(H.all fun x=>Cf x.1 names)=true:=by kernel_rfl):GG P Γ K x st:=by
 unfold Vb at h;unfold V8 Vb at k
 cases x with
 | out e fs=>simp[S8,U1]at h
 | run c fs=>
  cases c with
  | region id ops draw=>
   simp only[S8]at h k
   cases hr:Ig P (Spec P) n cs live names ops.toList draw st rs with
   | none=>rw[hr]at h;simp[U1]at h
   | some r=>
    obtain⟨st',obs,d⟩:=r;rw[hr]at h k;simp only[U1,Option.some.injEq,Prod.mk.injEq]at h;obtain⟨rfl,rfl⟩:=h;have:=Nl (id:=id) (K:=Pl P Γ K fs) q.hn q.mix (q.hand hh) hr hO (G5 k);exact(by simpa using this:E4 P Γ (.region id ops draw) (Pl P Γ K fs) st)
  | _=>simp[S8,U1]at h
theorem Cm{x:C9}{st:St}{n:Nat}{H:List (Nat×Own)}(q:RgQ P Γ n H)(live names:List Nat)
  (k:GG P Γ K (Wn x) (V8 P (Spec P) n [] live names x st []))
  (h:U1 (Vb P (Spec P) n [] live names x st [])=some (True,true):=by kernel_rfl) (hh:(H.all fun x=>Cf x.1 names)=true:=by kernel_rfl):GG P Γ K x st:=gR q live names [] [] trivial k h hh
def Tw:C9→Bool | .run _ _=>true|_=>false
theorem Vd{x:C9}{st st':St}(h:Le Γ st st')
  (k:GG P Γ K x st')
  (hx:Tw x=true:=by kernel_rfl):GG P Γ K x st:=by
 cases x with
 | run c fs=>exact Qu h k
 | out e fs=>cases hx
theorem Sp{x:C9}{st:St}(st':St)
  (k:GG P Γ K x st')
  (h:st=st':=by kernel_rfl):GG P Γ K x st:=h▸k
def Ra(x:C9)(st:St):AV:=match x with | .run (.cond c _ _) _=>Mh st.get c|_=>.any
def Va(b:Bool):C9→C9
 | .run (.cond _ c d) fs=>U0 (bif b then c else d) fs
 | x=>x
theorem gC{x:C9}{st:St}{R:Type}{b:Bool}{m1 m2:Option R}{r:R}(h:(bif b then m1 else m2)=some r)
  (kt:m1=some r→GG P Γ K (Va true x) st) (kf:m2=some r→GG P Γ K (Va false x) st)
  (hv:Ra x st = .bool b:=by kernel_rfl):GG P Γ K x st:=by
 cases x with
 | out e fs=>cases hv
 | run c fs=>
  cases c with
  | cond c y z=>
   refine Mb b hv (fun hb=>Cc (n:=400) (kt ?_)) (fun hb=>Cc (n:=400) (kf ?_))
   ·subst hb;exact h
   ·subst hb;exact h
  | _=>cases hv
theorem Sq{x:C9}{st:St}(b:Bool)
  (k:GG P Γ K (Va b x) st)
  (hv:Ra x st = .bool b:=by kernel_rfl):GG P Γ K x st:=by
 cases x with
 | out e fs=>cases hv
 | run c fs=>
  cases c with
  | cond c y z=>
   refine Mb b hv (fun hb=>Cc (n:=400) ?_) (fun hb=>Cc (n:=400) ?_)
   ·subst hb;exact k
   ·subst hb;exact k
  | _=>cases hv
theorem Ve{x:C9}{st:St}(pos:Bool)(n:Nat)
  (kt:(pos=true→n=0)→GG P Γ K (Va true x) st) (kf:(pos=false→n=0)→GG P Γ K (Va false x) st)
  (hv:Ra x st = .nilq pos n:=by kernel_rfl):GG P Γ K x st:=by
 cases x with
 | out e fs=>cases hv
 | run c fs=>
  cases c with
  | cond c y z=>exact Qx pos n hv (fun hb=>Cc (n:=400) (kt hb)) (fun hb=>Cc (n:=400) (kf hb))
  | _=>cases hv
theorem gB{R:Type}{c:Bool}{m1 m2:Option R}{r:R}{G:Prop}(h:(bif c then m1 else m2)=some r)(kt:c=true→m1=some r→G)(kf:c=false→m2=some r→G):G:=by
 cases c with
 | true=>exact kt rfl h
 | false=>exact kf rfl h
theorem Tu(F:Bool→Prop){c b:Bool}(hs:c=b)(h:F c):F b:=hs▸h
theorem Cw{a b:Bool}(h:a=b):AVle (.bool a) (.bool b):=by rw[h];exact .refl _
theorem Da{p:Prop}(h:false=true):p:=Bool.noConfusion h
theorem Sg{p:Prop}(h:true=false):p:=Bool.noConfusion h
theorem gK{x:C9}{st:St}{e:Exit}(h:K e st)(hx:x = .out e []:=by kernel_rfl):GG P Γ K x st:=by subst hx;exact h
def aG(Γ:Cu)(e0:Exit)(og:St):Exit→St→Prop:=fun e st=>e=e0∧Le Γ st og
def aR(K:Exit→St→Prop):Exit→St→Prop:=fun e st=>e = .ret∧K e st
theorem Pc{e0:Exit}{og st:St}(h:Le Γ st og):aG Γ e0 og e0 st:=⟨rfl,h⟩
theorem T3{st:St}(h:K .ret st):aR K .ret st:=⟨rfl,h⟩
def Wr:Exit→Bool | .normal=>true|_=>false
theorem gN{S X:Type}{x:C9}{st:St}{H:S→St}{KX:X→Exit→St→Prop}{s':S}(h:Le Γ st (H s'))(hx:x = .out .normal []:=by kernel_rfl):GG P Γ (Lt Γ H KX (.next s')) x st:=by
 subst hx;exact⟨rfl,h⟩
theorem gO{S X:Type}{x:C9}{st:St}{H:S→St}{KX:X→Exit→St→Prop}{y:X}{e:Exit}(h:KX y e st)(hx:x = .out e []:=by kernel_rfl)(hn:Wr e=false:=by kernel_rfl):GG P Γ (Lt Γ H KX (.done y)) x st:=by
 subst hx;exact⟨(by rintro rfl;cases hn),h⟩
def fK(P:Program)(Γ:Cu)(rs:List ResultVar)(H:List (Nat×Own))(res:AV)(H':List (Nat×Own)):Exit→St→Prop:=Wl Γ (Vq P rs H res H')
theorem On{rs:List ResultVar}{H H':List (Nat×Own)}{res:AV}{st st':St}{e:Exit}(ρ:List (Nat×Nat))(hl:Le Γ st st')(hr:O2 P rs ρ H st'=some (res,H'):=by kernel_rfl)
  (he:(match e with | .ret=>true | .normal=>true|_=>false)=true:=by kernel_rfl):fK P Γ rs H res H' e st:=by
 refine⟨st',hl,?_,ρ,hr⟩
 cases e with
 | ret=>exact .inl rfl
 | normal=>exact .inr rfl
 | _=>cases he
theorem Ie{rs:List ResultVar}{H H':List (Nat×Own)}{res:AV}{x:C9}{st:St}(ρ:List (Nat×Nat))(hr:O2 P rs ρ H st=some (res,H'):=by kernel_rfl)
  (hx:x = .out .ret []:=by kernel_rfl):GG P Γ (fK P Γ rs H res H') x st:=gK (e:=.ret) (On ρ (Le.refl _ _) hr) hx
def Np(fn:Func):Code:=match fn.body with|some c=>c|none=>.skip
theorem Bc {f : FuncId} {fn : Func} {args : List AV} {H H' : List (Nat × Own)} {res : AV} (hm : P.follows .mixedOrders = true) (hf : P.funcs[f]? = some fn)
    (k : ∀ Γ : Cu, RgQ P Γ fn.ntmps H → GG P Γ (fK P Γ fn.results.toList H res H') (U0 (Np fn) []) (I7 args H))
    (hb : fn.body.isSome = true := by kernel_rfl) (hname : (fn.name == "runtime.NumGoroutine") = false := by kernel_rfl) (hlen : Nat.ble args.length fn.ntmps = true := by kernel_rfl) (hpl : Lr H = true := by kernel_rfl) : Spec P f args H res H' := by
  obtain ⟨c, hc⟩ := Option.isSome_iff_exists.1 hb
  have e : Np fn = c := by unfold Np; rw [hc]
  refine M4 hf hc hname hlen (fun Γ hn hΓ => ?_) hpl; have := k Γ ⟨hn, hm, hΓ⟩; rw [e] at this; exact T6 (Cc this)
theorem Ud{st st':St}(h:st=st'):Le Γ st st':=h▸Le.refl Γ st
def Ub:C9→Bool | .run (.loop _) _=>true|_=>false
def U9:C9→C9
 | .run (.loop c) _=>U0 c []
 | x=>x
def Vn(e:Exit):C9→C9
 | .run _ fs=>V3 e fs
 | x=>x
def Vo{α:Type}(k:Nat)(x:α):List (Nat×α)→List (Nat×α)
 | []=>[(k,x)]
 | (k',y)::l=>bif Nat.beq k k' then(k,x)::l else bif Nat.blt k k' then(k,x)::(k',y)::l else(k',y)::Vo k x l
def Tc{α:Type}:List (Nat×α)→List (Nat×α)→List (Nat×α)
 | [],l=>l
 | (k,x)::r,l=>Tc r (Vo k x l)
def Ti(st:St)(ts:List (Nat×AV))(os:List (Nat×Own))(fs:List (Nat×Qc):=[]):St:=⟨Tc ts st.tmps,Tc os st.own,Tc fs st.fam⟩
def Wo(live names:List Nat)(st:St)(ts:List (Nat×AV))(os:List (Nat×Own))(fs:List (Nat×Qc):=[]):St:=Bo live names (Ti st ts os fs)
theorem gL{S X:Type}{x:C9}{st:St}{n:Nat}{Hf:List (Nat×Own)}(q:RgQ P Γ n Hf){f:S→Option (LR S X)}{s0:S}{y:X}(hx:Cn f s0=some y)(live names:List Nat)(H:St→S→St)(KX:St→X→Exit→St→Prop)
  (kb:∀ s y,f s=some y→GG P Γ (Lt Γ (H (Bo live names st)) (KX (Bo live names st)) y) (U9 x) (H (Bo live names st) s)) (ko:∀ e st',KX (Bo live names st) y e st'→GG P Γ K (Vn e x) st')
  (h0:Bo live names st=H (Bo live names st) s0:=by kernel_rfl) (hl:Ub x=true:=by kernel_rfl) (hh:(Hf.all fun x=>Cf x.1 names)=true:=by kernel_rfl):GG P Γ K x st:=by
 cases x with
 | out e fs=>cases hl
 | run c fs=>
  cases c with
  | loop c=>
   refine Qu (st':=H (Bo live names st) s0) ?_ (Qv (H (Bo live names st)) f (KX (Bo live names st)) (fun s y hy=>Cc (kb s y hy)) hx fun e st' hk=>G5 (ko e st' hk));rw[← h0];exact Jb live names q rfl hh
  | _=>cases hl
theorem gA{x:C9}{f:Exit→C9→C9}{e0:Exit}{og:St}
  (k:GG P Γ K (f e0 x) og)
  (hr:Tw (f e0 x)=true:=by kernel_rfl):∀ e st',aG Γ e0 og e st'→GG P Γ K (f e x) st':=by
 rintro e st' ⟨rfl,hl⟩;exact Vd hl k hr
theorem V4{x:C9}{f:Exit→C9→C9}{e0:Exit}{og:St}(k:∀ st',Le Γ st' og→GG P Γ K (f e0 x) st'):∀ e st',aG Γ e0 og e st'→GG P Γ K (f e x) st':=by
 rintro e st' ⟨rfl,hl⟩;exact k st' hl
theorem V5{x:C9}{f:Exit→C9→C9}{K':Exit→St→Prop}(k:∀ st',K' .ret st'→GG P Γ K (f .ret x) st'):∀ e st',aR K' e st'→GG P Γ K (f e x) st':=by
 rintro e st' ⟨rfl,hl⟩;exact k st' hl
def Vg:C9→Bool | .run (.seq _ _) _=>true|_=>false
def Vf:C9→C9
 | .run (.seq a _) _=>U0 a []
 | x=>x
def Vp(e:Exit):C9→C9
 | .run (.seq _ b) fs=>V3 e (.nx b::fs)
 | x=>x
theorem gJ{X:Type}{x:C9}{st:St}{m:Option X}{y:X}(hx:m=some y)(KX:X→Exit→St→Prop)
  (kb:∀ y,m=some y→GG P Γ (KX y) (Vf x) st) (ko:∀ e st',KX y e st'→GG P Γ K (Vp e x) st')
  (hs:Vg x=true:=by kernel_rfl):GG P Γ K x st:=by
 cases x with
 | out e fs=>cases hs
 | run c fs=>
  cases c with
  | seq a b=>exact Oi (Qt KX hx (fun y hy=>Cc (kb y hy)) fun e st' hk=>G5 (ko e st' hk))
  | _=>cases hs
def Sx:C9→Bool | .run (.scope _) _=>true|_=>false
def Vr:C9→Code | .run (.scope c) _=>c|_=>.skip
def Vh(c:Code)(l:Nat):C9:=U0 ((findLabel c l).getD .skip) []
theorem gS{S X:Type}{x:C9}{st:St}{f0:Option (LR S X)}{f:S→Option (LR S X)}{y:X}(hx:D9 f0 f=some y)(lab:S→Nat)(H:S→St)(KX:X→Exit→St→Prop)
  (k0:∀ y,f0=some y→GG P Γ (I9 Γ (Vr x) lab H KX y) (U0 (Vr x) []) st) (kb:∀ s y,f s=some y→GG P Γ (I9 Γ (Vr x) lab H KX y) (Vh (Vr x) (lab s)) (H s)) (ko:∀ e st',KX y e st'→GG P Γ K (Vn e x) st')
  (hs:Sx x=true:=by kernel_rfl):GG P Γ K x st:=by
 cases x with
 | out e fs=>cases hs
 | run c fs=>
  cases c with
  | scope c=>
   refine Ph lab H f0 f KX (fun y hy=>Cc (k0 y hy)) (fun s y rest hf hy=>?_) hx fun e st' hk=>G5 (ko e st' hk);have:=kb s y hy;unfold Vh Vr at this;rw[hf]at this;exact Cc this
  | _=>cases hs
theorem Wm{S X:Type}{x:C9}{st:St}{c:Code}{lab:S→Nat}{H:S→St}{KX:X→Exit→St→Prop}{s':S}(h:Le Γ st (H s'))(hx:x = .out (.goto (lab s')) []:=by kernel_rfl)(hf:(findLabel c (lab s')).isSome=true:=by kernel_rfl) :
  GG P Γ (I9 Γ c lab H KX (.next s')) x st:=by
 subst hx;exact⟨rfl,hf,h⟩
theorem Uz{S X:Type}{x:C9}{st:St}{c:Code}{lab:S→Nat}{H:S→St}{KX:X→Exit→St→Prop}{y:X}{e:Exit}(h:KX y e st)(hx:x = .out e []:=by kernel_rfl)
  (hf:(match e with | .goto l=>(findLabel c l).isNone|_=>true)=true:=by kernel_rfl):GG P Γ (I9 Γ c lab H KX (.done y)) x st:=by
 subst hx;refine⟨?_,h⟩;rintro l rfl
 simpa using hf
theorem V7{α:Type}{st:St}(U:α→St→St){a b:α}(h:a=b)(h1:st=U a st:=by kernel_rfl):Le Γ st (U b st):=by subst h;exact Ud h1
def Own.withF(g:Nat→List AV):Own→Own
 | .arr sz e n _=>.arr sz e n g
 | o=>o
def Tt(st:St)(nm:Nat):Option (Nat×(Nat→List AV)):=match Ab st.own nm with|some (.arr _ _ n f)=>some (n,f)|_=>none
def Vs(nm:Nat)(g:Nat→List AV)(st:St):St:=⟨st.tmps,(match Ab st.own nm with|some o=>Ci st.own nm (o.withF g)|none=>st.own),st.fam⟩
theorem Jk{nm sz n:Nat}{e:TypeId}{f g:Nat→List AV}(hp:∀ k,k<n→AVleL (f k) (g k)):∀{l:List (Nat×Own)},Ab l nm=some (.arr sz e n f)→OwnsLe l (Ci l nm (.arr sz e n g))
 | [],h=>by cases h
 | (k,o)::l,h=>by
  simp only[Ab]at h;simp only[Ci]
  cases hb:Nat.beq k nm with
  | true=>
   obtain rfl:=Nat.eq_of_beq_eq_true hb;rw[hb]at h;simp only[cond_true,Option.some.injEq]at h;subst h;exact .arr hp (.refl _)
  | false=>
   rw[hb]at h;exact .same (Jk hp h)
theorem V6{st:St}(nm:Nat){n:Nat}{f g:Nat→List AV}(hp:∀ k,k<n→AVleL (f k) (g k))(h:Tt st nm=some (n,f):=by kernel_rfl):Le Γ st (Vs nm g st):=by
 unfold Tt at h;unfold Vs
 cases ho:Ab st.own nm with
 | none=>rw[ho]at h;cases h
 | some o=>
  rw[ho]at h
  cases o with
  | arr sz e n' f'=>
   simp only[Option.some.injEq,Prod.mk.injEq]at h;obtain⟨rfl,rfl⟩:=h;exact Vi (TmpsLe.refl _) (Jk hp ho)
  | _=>cases h
theorem gI(g:Bool):g=true→g=true:=id
theorem Gs(c:Bool):c=true→(c==true)=true:=gT
theorem T9(c:Bool):c=false→(c==false)=true:=gF
theorem Fv{α:Type}(sz:Nat)(e:α→List AV)(d:α)(l:List α):AVle (.slice sz l.length (fun i=>(l.map e).getD i []) .exact) (AV.list sz e d l .exact):=Nk rfl fun i h=>S2 l i h
theorem Co{α:Type}(sz:Nat)(e:α→List AV)(d:α):AVle (.slice 0 0 (fun _=>[]) .exact) (AV.list sz e d [] .exact):=Qq
theorem La{α:Type}(sz nm:Nat)(e:α→List AV)(d:α)(l m:List α):AVle (.slice sz (l.length+m.length) (Cv l.length (fun i=>e (l.getD i d)) (fun i=>e (m.getD i d))) (.own nm)) (AV.list sz e d (l++m) (.own nm)):=T5
theorem Sz{st st':St}(h:st=st':=by kernel_rfl):Le Γ st st':=h▸Le.refl Γ st
theorem ci{p q:Prop}(a:p)(b:q):p∧q:=⟨a,b⟩
theorem c1{p:Prop}(a:p):p∧True:=⟨a,trivial⟩
end
set_option maxRecDepth 100000
set_option maxHeartbeats 2000000
def Ct(x:Int):List AV:=[(.int .u64 x)]
structure Ws where
 Write:Bool
 At:Int
 Bits:Int
 N:Int
 List:List Int
 deriving Inhabited,DecidableEq
def eU8(x:Int):List AV:=[(.int .u8 x)]
def V1(x:List Int):List AV:=[(AV.list 1 eU8 0 x .none)]
structure Aa where
 Write:Bool
 At:Int
 Byte:Int
 deriving Inhabited,DecidableEq
def Ag(x:Aa):List AV:=[(.bool x.Write),(.int .u64 x.At),(.int .u8 x.Byte)]
structure Hu where
 bytes:List Int
 trace:List Aa
 deriving Inhabited,DecidableEq
def V2(x:Int):List AV:=[(.int .u16 x)]
def eA2U16(x:(Int×Int)):List AV:=[(.int .u16 x.1),(.int .u16 x.2)]
theorem mix:Try.prog.follows .mixedOrders=true:=by kernel_rfl
def Q3:AV:=(AV.list 1 eU8 0 ([]:List Int) .exact)
def Q4:=(⟨[(2,(.vsl 36002 ([]:List Int).length))],[(36002,.arr 1 5 (([]:List Int).length) (fun i=>eU8 (([]:List Int).getD i 0)))],[]⟩:St)
def Z1:=fun za (zb:List Int)=>((za,.arr 1 5 zb.length (fun i=>eU8 (zb.getD i 0))):Nat×Own)
def Z2:=fun za zb zc zd zf=>((za,.row 63 [(.vsl zb zc),(AV.list 3 Ag default zd (.own zf))]):Nat×Own)
def Z3:=fun za zb zc zd zf=>(⟨[(za,30000),(zb,37001),(zc,35000)],[],(.bool zd),zf,[]⟩:Gi)
def Z4:=fun za zb zc zd=>([(Z2 30000 35000 za zb 37001),(37001,.tok 3 49 zc),(Z1 35000 zd)]:List (Nat×Own))
def Z5:=fun za zb zc zd zf zg zm=>([(Z2 za zb zc zd zf),(Z1 zb zg),(zf,.tok 3 49 zm)]:List (Nat×Own))
def Z6:=fun za zb zc zd zf zg=>(⟨[],[(20000,za),(21000,zb),(21001,zc)],(.tuple [zd,(.int .i64 zf)]),(bif true then zg else[]),[]⟩:Gi)
def Z7:=fun za zb=>(⟨[(11,30000),(60011001,37001),(60011000,35000)],[(20000,75)],za,zb,[]⟩:Gi)
def Z8:=((AV.list 3 Ag default ([]:List Aa) .exact):AV)
def Z9:=((AV.list 3 Ag default ([]:List Aa) .none):AV)
def Uw:=fun za zb zc zd=>((za,.row 63 [(.vsl zb zc),(AV.list 3 Ag default zd .none)]):Nat×Own)
def Wi:=fun za zb zc zd zf zg zm zn=>(⟨[(11,30000),(60011001,37001),(60011000,35000)],[(20000,za)],(.tuple [(AV.list 1 Ct 0 zb (.own 20000)),(.int .i64 zc)]),[(Z2 30000 35000 zd zf 37001),(37001,.tok 3 49 zg),(Z1 35000 zm),(20000,.tok 1 33 zn)],[]⟩:Gi)
def Ux:=(⟨[],[],(.bool false),[],[]⟩:Gi)
def E2:=fun za=>((.int .i64 za):AV)
def Uy:=fun za zb=>((AV.list 3 Ag default za (.own zb)):AV)
def Tp:=((.int .u64 (3:Int)):AV)
def Wj:=fun za zb=>([(29,(AV.list 3 Ag default za .exact)),(30,(AV.list 3 Ag default (zb++za) (.own 37001)))]:List (Nat×AV))
def Wk:=fun za zb zc zd zf zg zm zn zp zq=>(⟨[(za,30000),(zb,37001),(zc,35000)],[(20000,zd)],(AV.list 1 eU8 0 zf (.own 20000)),[(Z2 30000 35000 zg zm 37001),(37001,.tok 3 49 zn),(Z1 35000 zp),(20000,.tok 1 5 zq)],[]⟩:Gi)
def Tq:=((.int .i64 (1:Int)):AV)
def K7:=fun za zb=>((za,.tok 3 49 zb):Nat×Own)

def Ah(a7:List Int):Option (List Int):=
 (Ds (a7.length≤room) (some a7))
theorem Bf(a7:List Int)(r:List Int)(h:Ah a7=some r):Spec Try.prog 24 [(AV.list 1 eU8 0 a7 .none)] [] (.vsl 20000 r.length) [(20000,.arr 1 5 r.length (fun i=>eU8 (r.getD i 0)))]:=by
 refine Bc mix Try.func24 (fun Γ hq=>?_);unfold Ah at h;refine gR hq [0] [] [(2,Q3)] [] (c1 (Co 1 eU8 (0:Int))) ?_;refine Cm hq [0,4] [] ?_;refine Ve true a7.length (fun hb=>?_) (fun hb=>?_)
 ·replace h:=Rt (some ([]:List Int)) (fun(l2:List Int)=>(Ds (l2.length≤room) (some l2))) h (hb rfl) rfl (fun h0=>by first|exact h0|simpa [Ds,room] using h0);clear hb;refine gR hq [2] [] [(2,Q3)] [] (c1 (Co 1 eU8 (0:Int))) ?_;refine Sp (⟨[(2,Q3)],[],[]⟩:St) ?_;cases h;exact gK (e:=.ret) (On [(36002,20000)] (show Le Γ _ Q4 from Le.trans (Jb (st':=⟨[(2,Q3)],[],[]⟩) [2] [] hq) (Le.trans (Uc (t:=2) (nm:=36002) (sz':=1) (fun i=>eU8 (([]:List Int).getD i 0)) 5 rfl rfl) (Jb (st':=Q4) [2] [36002] hq))))
 ·clear hb;obtain⟨hc1,h⟩:=Am h;refine gR hq [2] [7] [(5,Q3),(7,.vsl 7 0)] [] (ci (show(AVle (.slice 1 0 (fun i=>([]:List (List AV)).getD i []) .exact) Q3) from Nk rfl (fun i hi=>absurd hi (Nat.not_lt_zero i))) (c1 hc1)) ?_;obtain rfl:=OI h;exact Ie [(7,20000)]
def Q6(x1:List Int):List AV:=[(.vsl 8 x1.length),Z8]
def Q7(x1:List Int):=(⟨[(2,(.ptr 10 0)),(3,(.int .i64 (0:Int)))],[(8,.arr 1 5 x1.length (fun i=>eU8 (x1.getD i 0))),(10,.row 63 (Q6 x1))],[]⟩:St)
def Q5(x1:List Int):=(⟨[(2,(.ptr 10 0)),(3,(.int .i64 (0:Int)))],[(8,.arr 1 5 x1.length (fun i=>eU8 (x1.getD i 0))),(10,.row 63 [(.vsl 8 x1.length),(AV.list 3 Ag default ([]:List Aa) (.own 6102001))]),(6102001,.tok 3 49 (([]:List Aa).length))],[]⟩:St)
def B6(a2:List Int):Option ((Bool×Hu)×Int):=
 (bif (decide (((4096:Int):Int)<(a2.length:Int))) then(some ((false,(default:Hu)),(4:Int))) else((Ah a2).bind fun x1=>(some ((true,(⟨x1,([]:List Aa)⟩:Hu)),(0:Int)))))
theorem Cd(a2:List Int)(r:((Bool×Hu)×Int))(h:B6 a2=some r):Spec Try.prog 10 [(AV.list 1 eU8 0 a2 .none)] [] (.tuple [(bif r.1.1 then((.ptr 20000 0):AV) else .nilp),(.int .i64 r.2)]) (bif r.1.1 then[(20000,.row 63 [(.vsl 21000 r.1.2.bytes.length),(AV.list 3 Ag default r.1.2.trace (.own 21001))]),(21000,.arr 1 5 r.1.2.bytes.length (fun i=>eU8 (r.1.2.bytes.getD i 0))),(21001,.tok 3 49 r.1.2.trace.length)] else[]):=by
 refine Bc mix Try.func10 (fun Γ hq=>?_);unfold B6 at h;refine Cm hq [0] [] ?_;refine Cm hq [0,6] [] ?_;refine gC h (fun h=>?_) (fun h=>?_)
 ·refine Cm hq [2,3] [] ?_;cases h;exact Ie []
 ·obtain⟨x1,hx1,h⟩:=bind_some h;refine gR hq [2,3] [8,10] [(9,(.agg (Q6 x1)))] [⟨[],[(20000,8)],(.vsl 20000 x1.length),[(Z1 20000 x1)],[]⟩] (ci (Bf a2 x1 hx1) (c1 (show(AVle (.agg [(.vsl 8 x1.length),(.slice 0 0 (fun _=>[]) .exact)]) (.agg (Q6 x1))) from(AVle.agg (.cons (AVle.refl _) (.cons Qq .nil)))))) ?_;refine Sp (Q7 x1) ?_;cases h;exact gK (e:=.ret) (On [(10,20000),(8,21000),(6102001,21001)] (show Le Γ _ (Q5 x1) from Le.trans (Jb (st':=(Q7 x1)) [2,3] [8,10] hq) (Le.trans (Mm (r:=10) (j:=1) (nm:=6102001) (sz':=3) (fun i=>Ag (([]:List Aa).getD i default)) 49 rfl rfl (nl rfl) rfl (.inl ⟨rfl,rfl⟩) (fun h_=>absurd h_ (by decide))) (Jb (st':=(Q5 x1)) [2,3] [8,10,6102001] hq))))
def B7(a5:Int):Option Int:=
 (Option.bind (α:=Bool) (bif (a5==8) then(some (a5==8)) else(bif (a5==16) then(some (a5==16)) else(bif (a5==32) then(some (a5==32)) else(some (a5==64))))) (fun x2=>(bif x2 then(some (D4 (Int.tdiv a5 (8:Int)))) else(some (0:Int)))))
theorem Fg(a5:Int)(r:Int)(h:B7 a5=some r):Spec Try.prog 25 [(.int .i64 a5)] [] (.int .i64 r) []:=by
 refine Bc mix Try.func25 (fun Γ hq=>?_);unfold B7 at h;refine Cm hq [0] [] ?_;refine Cm hq [0,3] [] ?_;obtain⟨x2,hx2,h⟩:=bind_some h;refine gJ hx2 (fun b1=>aG Γ .normal (⟨[(0,(E2 a5)),(4,(.bool b1))],[],[]⟩:St)) ?_ ?_
 ·clear h hx2;intro y h;refine Cm hq [0,3,4] [] ?_;refine gC h (fun h=>?_) (fun h=>?_)
  ·cases h;exact gK (Pc (Jb [0,4] [] hq))
  ·refine Cm hq [0,3,4] [] ?_;refine gC h (fun h=>?_) (fun h=>?_)
   ·cases h;exact gK (Pc (Jb [0,4] [] hq))
   ·refine Cm hq [0,3,4] [] ?_;refine gC h (fun h=>?_) (fun h=>?_)
    ·cases h;exact gK (Pc (Jb [0,4] [] hq))
    ·refine Cm hq [0,4] [] ?_;cases h;exact gK (Pc Sz)
 ·clear hx2;refine gA ?_;refine gC h (fun h=>?_) (fun h=>?_)
  ·refine gR hq [2] [] [] [] (c1 (show((8:Int)≠0) from(by decide))) ?_;cases h;exact Ie []
  ·refine Cm hq [2] [] ?_;cases h;exact Ie []
def Q8(a3:Int):=((bif false then true else(decide (a3<1)))==false)
def A0(a6:Int)(a3:Int)(a0:List Int)(a1:List Aa):Option (Bool×List Aa×List Int):=
 (bif (bif (bif false then true else(decide (a3<1))) then true else(decide (((a0.length:Int):Int)<a3))) then(some (false,a1,a0)) else(some ((decide (a6≤(C8 (D4 ((a0.length:Int)-a3))))),a1,a0)))
theorem A7(a6:Int)(a3:Int)(a0:List Int)(a1:List Aa)(r:(Bool×List Aa×List Int))(h:A0 a6 a3 a0 a1=some r):Spec Try.prog 16 [(.ptr 30000 0),(.int .u64 a6),(.int .i64 a3)] [(30000,.row 63 [(.vsl 35000 a0.length),(AV.list 3 Ag default a1 (.own 37001))]),(37001,.tok 3 49 a1.length),(35000,.arr 1 5 a0.length (fun i=>eU8 (a0.getD i 0)))] (.bool r.1) [(30000,.row 63 [(.vsl 35000 r.2.2.length),(AV.list 3 Ag default r.2.1 (.own 37001))]),(37001,.tok 3 49 r.2.1.length),(35000,.arr 1 5 r.2.2.length (fun i=>eU8 (r.2.2.getD i 0)))]:=by
 refine Bc mix Try.func16 (fun Γ hq=>?_);unfold A0 at h;refine Cm hq [0,1,2] [30000,35000,37001] ?_;refine gR hq [0,1,2,21] [30000,35000,37001] [] [] (ci (gI (false==false)) (ci (T9 false) (ci (gI (Q8 a3)) (ci (gI (Q8 a3)) (ci (gI (Q8 a3)) (ci (gI (Q8 a3)) (ci (gI (Q8 a3)) (ci (gI (Q8 a3)) (c1 (T9 (bif false then true else(decide (a3<1))))))))))))) ?_;refine gC h (fun h=>?_) (fun h=>?_)
 ·refine Cm hq [6] [30000,35000,37001] ?_;cases h;exact Ie [(30000,30000),(37001,37001),(35000,35000)]
 ·refine Cm hq [6] [30000,35000,37001] ?_;cases h;exact Ie [(30000,30000),(37001,37001),(35000,35000)]
def A2(a9:Int):(Int×Int×Int×List Aa×List Int)→Option (LR (Int×Int×Int×List Aa×List Int) (List Aa×List Int)):=
 fun((i1,i2,i3,l4,l5):(Int×Int×Int×List Aa×List Int))=>(bif (decide (i3<a9)) then(Ds (D5 i1 l5.length) (Ds (l4.length+([(⟨true,i1,(P5 i2)⟩:Aa)]:List Aa).length≤room) (some (.next ((C8 (i1+1)),(Ke .u64 i2 (8:Int)),(D4 (i3+1)),(l4++([(⟨true,i1,(P5 i2)⟩:Aa)]:List Aa)),(l5.set i1.toNat (P5 i2))))))) else(some (.done (l4,l5))))
def Q9(i1:Int)(i2:Int):=([(⟨true,i1,(P5 i2)⟩:Aa)]:List Aa)
def Bn(a6:Int)(a9:Int)(aB:Int)(a0:List Int)(a1:List Aa):Option (List Aa×List Int):=
 ((Cn (A2 a9) (a6,aB,(0:Int),a1,a0)).bind (fun(l6,l7)=>(some (l6,l7))))
theorem F8(a6:Int)(a9:Int)(aB:Int)(a0:List Int)(a1:List Aa)(r:(List Aa×List Int))(h:Bn a6 a9 aB a0 a1=some r):Spec Try.prog 26 [(.ptr 30000 0),(.int .u64 a6),(.int .i64 a9),(.int .u64 aB)] [(30000,.row 63 [(.vsl 35000 a0.length),(AV.list 3 Ag default a1 (.own 37001))]),(37001,.tok 3 49 a1.length),(35000,.arr 1 5 a0.length (fun i=>eU8 (a0.getD i 0)))] (.tuple []) [(30000,.row 63 [(.vsl 35000 r.2.length),(AV.list 3 Ag default r.1 (.own 37001))]),(37001,.tok 3 49 r.1.length),(35000,.arr 1 5 r.2.length (fun i=>eU8 (r.2.getD i 0)))]:=by
 refine Bc mix Try.func26 (fun Γ hq=>?_);unfold Bn at h;refine Cm hq [0,1,3,9,10] [30000,35000,37001] ?_;obtain⟨x10,hx10,h⟩:=bind_some h;refine gL hq hx10 [0,1,3,9,10] [30000,35000,37001] (fun u (i1,i2,i3,l4,l5)=>(Ti u [(1,(.int .u64 i1)),(3,(.int .u64 i2)),(10,(E2 i3))] (Z5 30000 35000 l5.length l4 37001 l5 l4.length))) (fun u (l6,l7)=>aG Γ (.exit 0) (⟨[],(Z5 30000 35000 l7.length l6 37001 l7 l6.length),[]⟩:St)) ?_ ?_
 ·rintro⟨i1,i2,i3,l4,l5⟩ y h;unfold A2 at h;refine Cm hq [0,1,3,9,10,11] [30000,35000,37001] ?_;refine gC h (fun h=>?_) (fun h=>?_)
  ·refine Cm hq [0,1,3,8,9,10] [30000,35000,37001] ?_;obtain⟨hc8,h⟩:=Am h;refine gR hq [0,1,3,8,9,10] [30000,35000,37001] [] [] (ci hc8 (c1 (Eq.refl l5.length))) ?_;refine Vd (Le.trans (V6 35000 (show ∀ k_,k_<l5.length→AVleL ((fun i_=>AV.eraseAll (fun n_=>Cf n_ [30000,35000,37001]) ((Jq (fun i=>eU8 (l5.getD i 0)) i1.toNat 0 [(.int .u8 (P5 i2))]) i_)) k_) ((fun i=>eU8 ((l5.set i1.toNat (P5 i2)).getD i 0)) k_) from(Kq (List.length_set ..).symm (fun k_ hk_=>(congrArg (AV.eraseAll (fun n_=>Cf n_ [30000,35000,37001])) ((M0 (fun _ _=>rfl) (Oq hc8) rfl) k_ hk_)).trans rfl)))) (V7 (fun(k_:Nat) u=>(Ti u [] [(Z2 30000 35000 k_ l4 37001),(35000,.arr 1 5 k_ (fun i=>eU8 ((l5.set i1.toNat (P5 i2)).getD i 0)))])) (show l5.length=(l5.set i1.toNat (P5 i2)).length from(List.length_set ..).symm))) ?_;obtain⟨hc9,h⟩:=Am h;refine gR hq [0,1,3,9,10] [30000,35000,37001] (Wj (Q9 i1 i2) l4) [] (ci (Fv 3 Ag (default:Aa) (Q9 i1 i2)) (ci (Eq.refl l4.length) (ci hc9 (ci (La 3 37001 Ag (default:Aa) l4 (Q9 i1 i2)) (c1 (Lh l4 (Q9 i1 i2))))))) ?_;refine gR hq [0,1,3,9,10] [30000,35000,37001] [] [] (c1 (show(0≤(8:Int)) from(by decide))) ?_;refine Cm hq [0,1,3,9,10] [30000,35000,37001] ?_;refine Cm hq [0,1,3,9,10] [30000,35000,37001] ?_;cases h;exact gN Sz
  ·cases h;exact gO (Pc (Jb [] [30000,35000,37001] hq))
 ·clear hx10;rcases x10 with⟨l6,l7⟩;refine V4 (fun st' hl11=>?_);cases h;exact gK (e:=.normal) (On [(30000,30000),(37001,37001),(35000,35000)] hl11)
def A5(aA:List Int)(x3:Int):(Int×Int×List Aa×List Int)→Option (LR (Int×Int×List Aa×List Int) ((List Aa×List Int) ⊕ (List Aa×List Int))):=
 fun((i4,i5,l6,l7):(Int×Int×List Aa×List Int))=>(bif (decide (i5<(aA.length:Int))) then(Ds (D5 i5 aA.length) ((A0 i4 x3 l7 l6).bind fun x13=>(Ds (l7.length=x13.2.2.length) (bif (!x13.1) then(some (.done (.inr (x13.2.1,x13.2.2)))) else((Bn i4 x3 (aA.getD i5.toNat 0) x13.2.2 x13.2.1).bind fun x15=>(Ds (x13.2.2.length=x15.2.length) (some (.next ((C8 (i4+(C8 x3))),(D4 (i5+1)),x15.1,x15.2))))))))) else(some (.done (.inl (l6,l7)))))
def Dm :(List Aa×List Int)→Option (LR (List Aa×List Int) (Int×List Aa×List Int)):=
 fun(s_:(List Aa×List Int))=>match s_ with|(l1,l2)=>(some (.done ((8:Int),l1,l2)))
def Id(Γ:Cu)(a6:Int)(a5:Int)(aA:List Int)(a0:List Int)(a1:List Aa)(r:(Int×List Aa×List Int)):Exit→St→Prop:=fK Try.prog Γ Try.f11.results.toList (Z4 a0.length a1 a1.length a0) (E2 r.1) (Z4 r.2.2.length r.2.1 r.2.1.length r.2.2)
def Br(a6:Int)(a5:Int)(aA:List Int)(a0:List Int)(a1:List Aa):Option (Int×List Aa×List Int):=
 ((D9 (S:=(List Aa×List Int)) (X:=(Int×List Aa×List Int)) ((B7 a5).bind fun x3=>(bif (bif (x3==0) then true else(decide (((16:Int):Int)<(aA.length:Int)))) then(some (.done ((1:Int),a1,a0))) else((Cn (A5 aA x3) (a6,(0:Int),a1,a0)).bind (fun x17=>(match x17 with|(.inl (l8,l9))=>(some (.done ((0:Int),l8,l9)))|(.inr (l10,l11))=>(some (.next (l10,l11)))))))) Dm).bind (fun x20=>(some x20)))
theorem Ed(a6:Int)(a5:Int)(aA:List Int)(a0:List Int)(a1:List Aa)(r:(Int×List Aa×List Int))(h:Br a6 a5 aA a0 a1=some r):Spec Try.prog 11 [(.ptr 30000 0),(.int .u64 a6),(.int .i64 a5),(AV.list 1 Ct 0 aA .none)] [(30000,.row 63 [(.vsl 35000 a0.length),(AV.list 3 Ag default a1 (.own 37001))]),(37001,.tok 3 49 a1.length),(35000,.arr 1 5 a0.length (fun i=>eU8 (a0.getD i 0)))] (.int .i64 r.1) [(30000,.row 63 [(.vsl 35000 r.2.2.length),(AV.list 3 Ag default r.2.1 (.own 37001))]),(37001,.tok 3 49 r.2.1.length),(35000,.arr 1 5 r.2.2.length (fun i=>eU8 (r.2.2.getD i 0)))]:=by
 refine Bc mix Try.func11 (fun Γ hq=>?_);unfold Br at h;refine Cm hq [0,1,2,3] [30000,35000,37001] ?_;obtain⟨x20,hx20,h⟩:=bind_some h;refine gS hx20 (fun(s_:(List Aa×List Int))=>match s_ with|(l1,l2)=>0) (fun(s_:(List Aa×List Int))=>match s_ with|(l1,l2)=>(⟨[],(Z5 30000 35000 l2.length l1 37001 l2 l1.length),[]⟩:St)) (fun r_=>aR (Id Γ a6 a5 aA a0 a1 r_)) ?_ ?_ ?_
 ·clear h hx20;intro y h;obtain⟨x3,hx3,h⟩:=bind_some h;refine gR hq [0,1,3,9] [30000,35000,37001] [] [⟨[],[],(E2 x3),[],[]⟩] (c1 (Fg a5 x3 hx3)) ?_;refine gR hq [0,1,3,9,20] [30000,35000,37001] [] [] (ci (gI ((x3==0)==false)) (ci (gI ((x3==0)==false)) (c1 (T9 (x3==0))))) ?_;refine gC h (fun h=>?_) (fun h=>?_)
  ·refine Cm hq [8] [30000,35000,37001] ?_;cases h;exact Uz (T3 (On [(30000,30000),(37001,37001),(35000,35000)] (Le.refl _ _)))
  ·refine Cm hq [0,1,9,21,22,23] [30000,35000,37001] ?_;obtain⟨x17,hx17,h⟩:=bind_some h;refine gL hq hx17 [0,1,9,21,22,23] [30000,35000,37001] (fun u (i4,i5,l6,l7)=>(Ti u [(1,(.int .u64 i4)),(23,(E2 i5))] (Z5 30000 35000 l7.length l6 37001 l7 l6.length))) (fun u x_=>match x_ with|(.inl (l8,l9))=>aG Γ (.exit 0) (⟨[],(Z5 30000 35000 l9.length l8 37001 l9 l8.length),[]⟩:St)|(.inr (l10,l11))=>aG Γ (.goto 0) (⟨[],(Z5 30000 35000 l11.length l10 37001 l11 l10.length),[]⟩:St)) ?_ ?_
   ·rintro⟨i4,i5,l6,l7⟩ y h;unfold A5 at h;refine Cm hq [0,1,9,21,22,23,24] [30000,35000,37001] ?_;refine gC h (fun h=>?_) (fun h=>?_)
    ·obtain⟨hc12,h⟩:=Am h;refine gR hq [0,1,9,11,21,22,23] [30000,35000,37001] [] [] (c1 hc12) ?_;obtain⟨x13,hx13,h⟩:=bind_some h;obtain⟨hc14,h⟩:=Am h;refine gR hq [0,1,9,11,21,22,23,31] [30000,35000,37001] [] [⟨[(30000,30000),(37001,37001),(35000,35000)],[],(.bool x13.1),(Z4 x13.2.2.length x13.2.1 x13.2.1.length x13.2.2),[]⟩] (c1 (A7 i4 x3 l7 l6 x13 hx13)) ?_;refine gC h (fun h=>?_) (fun h=>?_)
     ·cases h;exact gO (Pc (Jb [] [30000,35000,37001] hq))
     ·obtain⟨x15,hx15,h⟩:=bind_some h;obtain⟨hc16,h⟩:=Am h;refine gR hq [0,1,9,21,22,23] [30000,35000,37001] [] [⟨[(30000,30000),(37001,37001),(35000,35000)],[],(.tuple []),(Z4 x15.2.length x15.1 x15.1.length x15.2),[]⟩] (c1 (F8 i4 x3 (aA.getD i5.toNat 0) x13.2.2 x13.2.1 x15 hx15)) ?_;refine Cm hq [0,1,9,21,22,23] [30000,35000,37001] ?_;refine Cm hq [0,1,9,21,22,23] [30000,35000,37001] ?_;cases h;exact gN Sz
    ·cases h;exact gO (Pc (Jb [] [30000,35000,37001] hq))
   ·clear hx17;rcases x17 with⟨l8,l9⟩|⟨l10,l11⟩
    ·refine gA ?_;refine Cm hq [8] [30000,35000,37001] ?_;cases h;exact Uz (T3 (On [(30000,30000),(37001,37001),(35000,35000)] (Le.refl _ _)))
    ·refine V4 (fun st' hl19=>?_);cases h;exact Wm (Le.trans hl19 Sz)
 ·clear h hx20;rintro⟨l1,l2⟩ y h;unfold Dm at h;refine Cm hq [8] [30000,35000,37001] ?_;cases h;exact Uz (T3 (On [(30000,30000),(37001,37001),(35000,35000)] (Le.refl _ _)))
 ·clear hx20;refine V5 (fun st' hk=>?_);obtain rfl:=OI h;exact gK hk
def A6(a9:Int)(a0:List Int):(Int×Int×Int×List Aa)→Option (LR (Int×Int×Int×List Aa) (Int×List Aa)):=
 fun((i1,i2,i3,l4):(Int×Int×Int×List Aa))=>(bif (decide (i3<a9)) then(Ds (D5 i1 a0.length) (Ds (l4.length+([(⟨false,i1,(a0.getD i1.toNat 0)⟩:Aa)]:List Aa).length≤room) (Ds (0≤(D4 ((8:Int)*i3))) (some (.next ((C8 (i1+1)),(Ey .or .u64 i2 (P0 .u64 (C8 (a0.getD i1.toNat 0)) (D4 ((8:Int)*i3)))),(D4 (i3+1)),(l4++([(⟨false,i1,(a0.getD i1.toNat 0)⟩:Aa)]:List Aa)))))))) else(some (.done (i2,l4))))
def Vu(i1:Int)(a0:List Int):=([(⟨false,i1,(a0.getD i1.toNat 0)⟩:Aa)]:List Aa)
def Bt(a6:Int)(a9:Int)(a0:List Int)(a1:List Aa):Option (Int×List Aa×List Int):=
 ((Cn (A6 a9 a0) (a6,(0:Int),(0:Int),a1)).bind (fun(i5,l6)=>(some (i5,l6,a0))))
theorem Gp(a6:Int)(a9:Int)(a0:List Int)(a1:List Aa)(r:(Int×List Aa×List Int))(h:Bt a6 a9 a0 a1=some r):Spec Try.prog 28 [(.ptr 30000 0),(.int .u64 a6),(.int .i64 a9)] [(30000,.row 63 [(.vsl 35000 a0.length),(AV.list 3 Ag default a1 (.own 37001))]),(37001,.tok 3 49 a1.length),(35000,.arr 1 5 a0.length (fun i=>eU8 (a0.getD i 0)))] (.int .u64 r.1) [(30000,.row 63 [(.vsl 35000 r.2.2.length),(AV.list 3 Ag default r.2.1 (.own 37001))]),(37001,.tok 3 49 r.2.1.length),(35000,.arr 1 5 r.2.2.length (fun i=>eU8 (r.2.2.getD i 0)))]:=by
 refine Bc mix Try.func28 (fun Γ hq=>?_);unfold Bt at h;refine Cm hq [0,1,2] [30000,35000,37001] ?_;refine Cm hq [0,1,2,7] [30000,35000,37001] ?_;refine Cm hq [0,1,7,10,11] [30000,35000,37001] ?_;obtain⟨x10,hx10,h⟩:=bind_some h;refine gL hq hx10 [0,1,7,10,11] [30000,35000,37001] (fun u (i1,i2,i3,l4)=>(Ti u [(1,(.int .u64 i1)),(7,(.int .u64 i2)),(11,(E2 i3))] [(Z2 30000 35000 a0.length l4 37001),(K7 37001 l4.length)])) (fun u (i5,l6)=>aG Γ (.exit 0) (Wo [7] [30000,35000,37001] u [(7,(.int .u64 i5))] [(Z2 30000 35000 a0.length l6 37001),(K7 37001 l6.length)])) ?_ ?_
 ·rintro⟨i1,i2,i3,l4⟩ y h;unfold A6 at h;refine Cm hq [0,1,7,10,11,12] [30000,35000,37001] ?_;refine gC h (fun h=>?_) (fun h=>?_)
  ·refine Cm hq [0,1,7,8,10,11] [30000,35000,37001] ?_;obtain⟨hc7,h⟩:=Am h;refine gR hq [0,1,7,8,9,10,11] [30000,35000,37001] [] [] (ci hc7 (c1 (Eq.refl a0.length))) ?_;obtain⟨hc8,h⟩:=Am h;refine gR hq [0,1,7,8,9,10,11] [30000,35000,37001] (Wj (Vu i1 a0) l4) [] (ci (Fv 3 Ag (default:Aa) (Vu i1 a0)) (ci (Eq.refl l4.length) (ci hc8 (ci (La 3 37001 Ag (default:Aa) l4 (Vu i1 a0)) (c1 (Lh l4 (Vu i1 a0))))))) ?_;obtain⟨hc9,h⟩:=Am h;refine gR hq [0,1,7,10,11] [30000,35000,37001] [] [] (c1 hc9) ?_;refine Cm hq [0,1,7,10,11] [30000,35000,37001] ?_;refine Cm hq [0,1,7,10,11] [30000,35000,37001] ?_;cases h;exact gN Sz
  ·cases h;exact gO (Pc (Jb [7] [30000,35000,37001] hq))
 ·clear hx10;rcases x10 with⟨i5,l6⟩;refine gA ?_;refine Cm hq [6] [30000,35000,37001] ?_;cases h;exact Ie [(30000,30000),(37001,37001),(35000,35000)]
def A8(a3:Int)(x3:Int):(Int×Int×List Int×List Aa×List Int)→Option (LR (Int×Int×List Int×List Aa×List Int) ((List Int×List Aa×List Int) ⊕ (List Aa×List Int))):=
 fun((i5,i6,l7,l8,l9):(Int×Int×List Int×List Aa×List Int))=>(bif (decide (i6<((List.replicate a3.toNat (0:Int)).length:Int))) then((A0 i5 x3 l9 l8).bind fun x15=>(Ds (l9.length=x15.2.2.length) (bif (!x15.1) then(some (.done (.inr (x15.2.1,x15.2.2)))) else((Bt i5 x3 x15.2.2 x15.2.1).bind fun x17=>(Ds (x15.2.2.length=x17.2.2.length) (Ds (D5 i6 l7.length) (some (.next ((C8 (i5+(C8 x3))),(D4 (i6+1)),(l7.set i6.toNat x17.1),x17.2.1,x17.2.2))))))))) else(some (.done (.inl (l7,l8,l9)))))
def Dz :(List Aa×List Int)→Option (LR (List Aa×List Int) (List Int×Int×List Aa×List Int)):=
 fun(s_:(List Aa×List Int))=>match s_ with|(l1,l2)=>(some (.done (([]:List Int),(8:Int),l1,l2)))
def Ip(Γ:Cu)(a6:Int)(a5:Int)(a3:Int)(a0:List Int)(a1:List Aa)(r:(List Int×Int×List Aa×List Int)):Exit→St→Prop:=fK Try.prog Γ Try.f13.results.toList (Z4 a0.length a1 a1.length a0) (.tuple [(AV.list 1 Ct 0 r.1 (.own 20000)),(E2 r.2.1)]) [(Z2 30000 35000 r.2.2.2.length r.2.2.1 37001),(K7 37001 r.2.2.1.length),(Z1 35000 r.2.2.2),(20000,.tok 1 33 r.1.length)]
def Um:AV:=(AV.list 1 Ct 0 ([]:List Int) .exact)
def Vx(l2:List Int)(l1:List Aa):List (Nat×Own):=(Z5 30000 35000 l2.length l1 37001 l2 l1.length)
def We(l10:List Int)(l12:List Int)(l11:List Aa):List (Nat×Own):=[(26,.arr 1 33 l10.length (fun i=>Ct (l10.getD i 0))),(Z2 30000 35000 l12.length l11 37001),(Z1 35000 l12),(K7 37001 l11.length)]
def Wd(a0:List Int)(a1:List Aa):=(⟨[(8,Um),(9,Tq)],(Z5 30000 35000 a0.length a1 37001 a0 a1.length),[]⟩:St)
def Wc(l2:List Int)(l1:List Aa):=(⟨[(8,(AV.list 1 Ct 0 ([]:List Int) (.own 6008))),(9,(.int .i64 (8:Int)))],[(6008,.tok 1 33 (([]:List Int).length)),(Z2 30000 35000 l2.length l1 37001),(Z1 35000 l2),(K7 37001 l1.length)],[]⟩:St)
def Wb(a0:List Int)(a1:List Aa):=(⟨[(8,(AV.list 1 Ct 0 ([]:List Int) (.own 6008))),(9,Tq)],[(6008,.tok 1 33 (([]:List Int).length)),(Z2 30000 35000 a0.length a1 37001),(Z1 35000 a0),(K7 37001 a1.length)],[]⟩:St)
def Bw(a6:Int)(a5:Int)(a3:Int)(a0:List Int)(a1:List Aa):Option (List Int×Int×List Aa×List Int):=
 ((D9 (S:=(List Aa×List Int)) (X:=(List Int×Int×List Aa×List Int)) ((B7 a5).bind fun x3=>(bif (bif (bif (x3==0) then true else(decide (a3<0))) then true else(decide (((16:Int):Int)<a3))) then(some (.done (([]:List Int),(1:Int),a1,a0))) else(Ds (0≤a3∧a3≤a3∧a3≤(room:Int)) ((Cn (A8 a3 x3) (a6,(0:Int),(List.replicate a3.toNat (0:Int)),a1,a0)).bind (fun x20=>(match x20 with|(.inl (l10,l11,l12))=>(some (.done (l10,(0:Int),l11,l12)))|(.inr (l13,l14))=>(some (.next (l13,l14))))))))) Dz).bind (fun x23=>(some x23)))
theorem E0(a6:Int)(a5:Int)(a3:Int)(a0:List Int)(a1:List Aa)(r:(List Int×Int×List Aa×List Int))(h:Bw a6 a5 a3 a0 a1=some r):Spec Try.prog 13 [(.ptr 30000 0),(.int .u64 a6),(.int .i64 a5),(.int .i64 a3)] [(30000,.row 63 [(.vsl 35000 a0.length),(AV.list 3 Ag default a1 (.own 37001))]),(37001,.tok 3 49 a1.length),(35000,.arr 1 5 a0.length (fun i=>eU8 (a0.getD i 0)))] (.tuple [(AV.list 1 Ct 0 r.1 (.own 20000)),(.int .i64 r.2.1)]) [(30000,.row 63 [(.vsl 35000 r.2.2.2.length),(AV.list 3 Ag default r.2.2.1 (.own 37001))]),(37001,.tok 3 49 r.2.2.1.length),(35000,.arr 1 5 r.2.2.2.length (fun i=>eU8 (r.2.2.2.getD i 0))),(20000,.tok 1 33 r.1.length)]:=by
 refine Bc mix Try.func13 (fun Γ hq=>?_);have hΓ:=hq.own;unfold Bw at h;refine gR hq [0,1,2,3] [30000,35000,37001] [(8,Um)] [] (c1 (Co 1 Ct (0:Int))) ?_;obtain⟨x23,hx23,h⟩:=bind_some h;refine gS hx23 (fun(s_:(List Aa×List Int))=>match s_ with|(l1,l2)=>0) (fun(s_:(List Aa×List Int))=>match s_ with|(l1,l2)=>(⟨[],(Vx l2 l1),[]⟩:St)) (fun r_=>aR (Ip Γ a6 a5 a3 a0 a1 r_)) ?_ ?_ ?_
 ·clear h hx23;intro y h;obtain⟨x3,hx3,h⟩:=bind_some h;refine gR hq [0,1,3,10] [30000,35000,37001] [] [⟨[],[],(E2 x3),[],[]⟩] (c1 (Fg a5 x3 hx3)) ?_;refine gR hq [0,1,3,10,24] [30000,35000,37001] [] [] (ci (gI ((x3==0)==false)) (ci (T9 (x3==0)) (ci (gI ((bif (x3==0) then true else(decide (a3<0)))==false)) (c1 (T9 (bif (x3==0) then true else(decide (a3<0)))))))) ?_;refine gC h (fun h=>?_) (fun h=>?_)
  ·refine gR hq [8,9] [30000,35000,37001] [(8,Um)] [] (c1 (Co 1 Ct (0:Int))) ?_;refine Sp (Wd a0 a1) ?_;cases h;exact Uz (T3 (On [(30000,30000),(37001,37001),(35000,35000),(6008,20000)] (show Le Γ _ (Wb a0 a1) from Le.trans (Jb (st':=(Wd a0 a1)) [8,9] [30000,35000,37001] hq) (Le.trans (Nw (t:=8) (nm:=6008) (sz':=1) (fun i=>Ct (([]:List Int).getD i 0)) 33 rfl rfl (.inl ⟨rfl,rfl⟩) (fun h_=>absurd h_ (by decide))) (Jb (st':=(Wb a0 a1)) [8,9] [6008,30000,35000,37001] hq)))))
  ·obtain⟨hc4,h⟩:=Am h;refine gR hq [0,1,10,11] [26,30000,35000,37001] [] [] (c1 hc4) ?_;refine Vd (Le.trans (V6 26 (show ∀ k_,k_<(a3.toNat)→AVleL ((fun i_=>AV.eraseAll (fun n_=>Cf n_ [26,30000,35000,37001]) ((fun _=>[(.int .u64 (0:Int))]) i_)) k_) ((fun i=>Ct ((List.replicate a3.toNat (0:Int)).getD i 0)) k_) from(fun k hk=>S1 (e:=Ct) (d:=(0:Int)) (.cons (AVle.refl _) .nil) _ k (Td hk)))) (V7 (fun(k_:Nat) u=>(Ti u [(11,(.vsl 26 k_))] [(26,.arr 1 33 k_ (fun i=>Ct ((List.replicate a3.toNat (0:Int)).getD i 0)))])) (show a3.toNat=(List.replicate a3.toNat (0:Int)).length from(List.length_replicate ..).symm))) ?_;refine Cm hq [0,1,10,11,28,29] [26,30000,35000,37001] ?_;obtain⟨x20,hx20,h⟩:=bind_some h;refine gL hq hx20 [0,1,10,11,28,29] [26,30000,35000,37001] (fun u (i5,i6,l7,l8,l9)=>(Ti u [(1,(.int .u64 i5)),(11,(.vsl 26 l7.length)),(29,(E2 i6))] [(26,.arr 1 33 l7.length (fun i=>Ct (l7.getD i 0))),(Z2 30000 35000 l9.length l8 37001),(Z1 35000 l9),(K7 37001 l8.length)])) (fun u x_=>match x_ with|(.inl (l10,l11,l12))=>aG Γ (.exit 0) (⟨[(11,(.vsl 26 l10.length))],(We l10 l12 l11),[]⟩:St)|(.inr (l13,l14))=>aG Γ (.goto 0) (⟨[],(Z5 30000 35000 l14.length l13 37001 l14 l13.length),[]⟩:St)) ?_ ?_
   ·rintro⟨i5,i6,l7,l8,l9⟩ y h;unfold A8 at h;refine Cm hq [0,1,10,11,28,29,30] [26,30000,35000,37001] ?_;refine gC h (fun h=>?_) (fun h=>?_)
    ·refine Cm hq [0,1,10,11,12,28,29] [26,30000,35000,37001] ?_;obtain⟨x15,hx15,h⟩:=bind_some h;obtain⟨hc16,h⟩:=Am h;refine gR hq [0,1,10,11,12,28,29,36] [26,30000,35000,37001] [] [⟨[(30000,30000),(37001,37001),(35000,35000)],[],(.bool x15.1),(Z4 x15.2.2.length x15.2.1 x15.2.1.length x15.2.2),[]⟩] (c1 (A7 i5 x3 l9 l8 x15 hx15)) ?_;refine gC h (fun h=>?_) (fun h=>?_)
     ·cases h;exact gO (Pc (Jb [] [30000,35000,37001] hq))
     ·obtain⟨x17,hx17,h⟩:=bind_some h;obtain⟨hc18,h⟩:=Am h;obtain⟨hc19,h⟩:=Am h;refine gR hq [0,1,10,11,28,29] [26,30000,35000,37001] [] [⟨[(30000,30000),(37001,37001),(35000,35000)],[],(.int .u64 x17.1),(Z4 x17.2.2.length x17.2.1 x17.2.1.length x17.2.2),[]⟩] (ci (Gp i5 x3 x15.2.2 x15.2.1 x17 hx17) (ci hc19 (c1 (Eq.refl l7.length)))) ?_;refine Vd (Le.trans (V6 26 (show ∀ k_,k_<l7.length→AVleL ((fun i_=>AV.eraseAll (fun n_=>Cf n_ [26,30000,35000,37001]) ((Jq (fun i=>Ct (l7.getD i 0)) i6.toNat 0 [(.int .u64 x17.1)]) i_)) k_) ((fun i=>Ct ((l7.set i6.toNat x17.1).getD i 0)) k_) from(Kq (List.length_set ..).symm (fun k_ hk_=>(congrArg (AV.eraseAll (fun n_=>Cf n_ [26,30000,35000,37001])) ((M0 (fun _ _=>rfl) (Oq hc19) rfl) k_ hk_)).trans rfl)))) (V7 (fun(k_:Nat) u=>(Ti u [(11,(.vsl 26 k_))] [(26,.arr 1 33 k_ (fun i=>Ct ((l7.set i6.toNat x17.1).getD i 0)))])) (show l7.length=(l7.set i6.toNat x17.1).length from(List.length_set ..).symm))) ?_;refine Cm hq [0,1,10,11,28,29] [26,30000,35000,37001] ?_;refine Cm hq [0,1,10,11,28,29] [26,30000,35000,37001] ?_;cases h;exact gN Sz
    ·cases h;exact gO (Pc (Jb [11] [26,30000,35000,37001] hq))
   ·clear hx20;rcases x20 with⟨l10,l11,l12⟩|⟨l13,l14⟩
    ·refine gA ?_;refine Cm hq [8,9] [26,30000,35000,37001] ?_;refine Sp (⟨[(8,(.vsl 26 l10.length)),(9,(.int .i64 (0:Int)))],(We l10 l12 l11),[]⟩:St) ?_;cases h;exact Uz (T3 (On [(30000,30000),(37001,37001),(35000,35000),(26,20000)] (Le.trans (Hj (nm:=26) (sz:=1) (n:=l10.length) (e:=33) (f:=(fun i=>Ct (l10.getD i 0))) (g:=(fun i=>Ct (l10.getD i 0))) rfl ⟨rfl,trivial⟩ (fun _ _=>rfl) (by rw[hΓ];rfl)) (Rj (st':=⟨[(8,(AV.list 1 Ct 0 l10 (.own 26))),(9,(.int .i64 (0:Int)))],[(26,.tok 1 33 l10.length),(Z2 30000 35000 l12.length l11 37001),(Z1 35000 l12),(K7 37001 l11.length)],[]⟩) (by kernel_rfl)))))
    ·refine V4 (fun st' hl22=>?_);cases h;exact Wm (Le.trans hl22 Sz)
 ·clear h hx23;rintro⟨l1,l2⟩ y h;unfold Dz at h;refine gR hq [8,9] [30000,35000,37001] [(8,Um)] [] (c1 (Co 1 Ct (0:Int))) ?_;refine Sp (⟨[(8,Um),(9,(.int .i64 (8:Int)))],(Vx l2 l1),[]⟩:St) ?_;cases h;exact Uz (T3 (On [(30000,30000),(37001,37001),(35000,35000),(6008,20000)] (show Le Γ _ (Wc l2 l1) from Le.trans (Jb (st':=⟨[(8,Um),(9,(.int .i64 (8:Int)))],(Vx l2 l1),[]⟩) [8,9] [30000,35000,37001] hq) (Le.trans (Nw (t:=8) (nm:=6008) (sz':=1) (fun i=>Ct (([]:List Int).getD i 0)) 33 rfl rfl (.inl ⟨rfl,rfl⟩) (fun h_=>absurd h_ (by decide))) (Jb (st':=(Wc l2 l1)) [8,9] [6008,30000,35000,37001] hq)))))
 ·clear hx23;refine V5 (fun st' hk=>?_);obtain rfl:=OI h;exact gK hk
def U5(x1:List Int):=(fun i=>eU8 (x1.getD i 0))
def Bq(a0:List Int)(a1:List Aa):Option (List Int×List Aa×List Int):=
 ((Ah a0).bind fun x1=>(some (x1,a1,a0)))
theorem Ec(a0:List Int)(a1:List Aa)(r:(List Int×List Aa×List Int))(h:Bq a0 a1=some r):Spec Try.prog 19 [(.ptr 30000 0)] [(30000,.row 63 [(.vsl 35000 a0.length),(AV.list 3 Ag default a1 (.own 37001))]),(37001,.tok 3 49 a1.length),(35000,.arr 1 5 a0.length (fun i=>eU8 (a0.getD i 0)))] (AV.list 1 eU8 0 r.1 (.own 20000)) [(30000,.row 63 [(.vsl 35000 r.2.2.length),(AV.list 3 Ag default r.2.1 (.own 37001))]),(37001,.tok 3 49 r.2.1.length),(35000,.arr 1 5 r.2.2.length (fun i=>eU8 (r.2.2.getD i 0))),(20000,.tok 1 5 r.1.length)]:=by
 refine Bc mix Try.func19 (fun Γ hq=>?_);have hΓ:=hq.own;unfold Bq at h;refine gR hq [0] [30000,35000,37001] [(2,(AV.list 1 eU8 0 ([]:List Int) .exact))] [] (c1 (Co 1 eU8 (0:Int))) ?_;refine Cm hq [0,4] [30000,35000,37001] ?_;refine Sq false ?_;obtain⟨x1,hx1,h⟩:=bind_some h;refine gR hq [2] [9,30000,35000,37001] [] [⟨[],[(20000,9)],(.vsl 20000 x1.length),[(20000,.arr 1 5 x1.length (U5 x1))],[35000]⟩] (ci (Bf a0 x1 hx1) (ci (show(I4 [(20000,.arr 1 5 x1.length (U5 x1))]) from⟨(fun _ _=>rfl),trivial⟩) (c1 (Eq.refl a0.length)))) ?_;refine Sp (⟨[(2,(.vsl 9 x1.length))],[(9,.arr 1 5 x1.length (U5 x1)),(Z2 30000 35000 a0.length a1 37001),(Z1 35000 a0),(K7 37001 a1.length)],[]⟩:St) ?_;cases h;exact gK (e:=.ret) (On [(30000,30000),(37001,37001),(35000,35000),(9,20000)] (Le.trans (Hj (nm:=9) (sz:=1) (n:=x1.length) (e:=5) (f:=(U5 x1)) (g:=(U5 x1)) rfl ⟨rfl,trivial⟩ (fun _ _=>rfl) (by rw[hΓ];rfl)) (Rj (st':=⟨[(2,(AV.list 1 eU8 0 x1 (.own 9)))],[(9,.tok 1 5 x1.length),(Z2 30000 35000 a0.length a1 37001),(Z1 35000 a0),(K7 37001 a1.length)],[]⟩) (by kernel_rfl))))
def Un:AV:=Z8
def Wf:=(⟨[(2,(AV.list 3 Ag default ([]:List Aa) (.own 6002)))],[(6002,.tok 3 49 (([]:List Aa).length))],[]⟩:St)
def Aj(a7:List Aa):Option (List Aa):=
 (Ds (([]:List Aa).length+a7.length≤room) (some (([]:List Aa)++a7)))
theorem Bh(a7:List Aa)(r:List Aa)(h:Aj a7=some r):Spec Try.prog 29 [(AV.list 3 Ag default a7 .none)] [] (AV.list 3 Ag default r (.own 20000)) [(20000,.tok 3 49 r.length)]:=by
 refine Bc mix Try.func29 (fun Γ hq=>?_);unfold Aj at h;refine gR hq [0] [] [(2,Un)] [] (c1 (Co 3 Ag (default:Aa))) ?_;refine Cm hq [0,4] [] ?_;refine Ve true a7.length (fun hb=>?_) (fun hb=>?_)
 ·replace h:=Rt (some ([]:List Aa)) (fun(l2:List Aa)=>(Ds (([]:List Aa).length+l2.length≤room) (some (([]:List Aa)++l2)))) h (hb rfl) rfl (fun h0=>by first|exact h0|simpa [Ds,room] using h0);clear hb;refine gR hq [2] [] [(2,Un)] [] (c1 (Co 3 Ag (default:Aa))) ?_;refine Sp (⟨[(2,Un)],[],[]⟩:St) ?_;cases h;exact gK (e:=.ret) (On [(6002,20000)] (show Le Γ _ Wf from Le.trans (Jb (st':=⟨[(2,Un)],[],[]⟩) [2] [] hq) (Le.trans (Nw (t:=2) (nm:=6002) (sz':=3) (fun i=>Ag (([]:List Aa).getD i default)) 49 rfl rfl (.inl ⟨rfl,rfl⟩) (fun h_=>absurd h_ (by decide))) (Jb (st':=Wf) [2] [6002] hq))))
 ·clear hb;obtain⟨hc1,h⟩:=Am h;refine gR hq [2] [7] [(5,Un),(7,(AV.list 3 Ag default (([]:List Aa)++a7) (.own 7)))] [] (ci (show(AVle (.slice 3 0 (fun i=>([]:List (List AV)).getD i []) .exact) Un) from Nk rfl (fun i hi=>absurd hi (Nat.not_lt_zero i))) (ci hc1 (ci (show(49=Hd→([]:List Aa).length=0∨0<a7.length) from(fun h_=>absurd h_ (by decide))) (ci (La 3 7 Ag (default:Aa) ([]:List Aa) a7) (c1 (Lh ([]:List Aa) a7)))))) ?_;cases h;exact Ie [(7,20000)]
def B3(a0:List Int)(a1:List Aa):Option (List Aa×List Aa×List Int):=
 ((Aj a1).bind fun x1=>(some (x1,a1,a0)))
theorem Cy(a0:List Int)(a1:List Aa)(r:(List Aa×List Aa×List Int))(h:B3 a0 a1=some r):Spec Try.prog 21 [(.ptr 30000 0)] [(30000,.row 63 [(.vsl 35000 a0.length),(AV.list 3 Ag default a1 (.own 37001))]),(37001,.tok 3 49 a1.length),(35000,.arr 1 5 a0.length (fun i=>eU8 (a0.getD i 0)))] (AV.list 3 Ag default r.1 (.own 20000)) [(30000,.row 63 [(.vsl 35000 r.2.2.length),(AV.list 3 Ag default r.2.1 (.own 37001))]),(37001,.tok 3 49 r.2.1.length),(35000,.arr 1 5 r.2.2.length (fun i=>eU8 (r.2.2.getD i 0))),(20000,.tok 3 49 r.1.length)]:=by
 refine Bc mix Try.func21 (fun Γ hq=>?_);unfold B3 at h;refine gR hq [0] [30000,35000,37001] [(2,Z8)] [] (c1 (Co 3 Ag (default:Aa))) ?_;refine Cm hq [0,4] [30000,35000,37001] ?_;refine Sq false ?_;obtain⟨x1,hx1,h⟩:=bind_some h;refine gR hq [2] [9,30000,35000,37001] [] [⟨[],[(20000,9)],(Uy x1 20000),[(K7 20000 x1.length)],[]⟩] (c1 (Bh a1 x1 hx1)) ?_;cases h;exact Ie [(30000,30000),(37001,37001),(35000,35000),(9,20000)]
def Uq(x5:(List Int×Int×List Aa×List Int)):=(x5.2.1==0)
def To(x3:(Int×List Aa×List Int)):=((x3.1==0)==true)
def Wp(x5:(List Int×Int×List Aa×List Int)):=(((x5.1.length:Int):Int)==1)
def Qd(x3:(Int×List Aa×List Int))(x9:(List Int×List Aa×List Int)):=(bif (x3.1==0) then(((x9.1.length:Int):Int)==4) else false)
def Us(x9:(List Int×List Aa×List Int)):=(((x9.1.getD (2:Int).toNat (0:Int)):Int)==2)
def Oc(x3:(Int×List Aa×List Int))(x9:(List Int×List Aa×List Int)):=(bif (bif (Qd x3 x9) then(Us x9) else false) then(((x9.1.getD (3:Int).toNat (0:Int)):Int)==1) else false)
def Lz(x3:(Int×List Aa×List Int))(x9:(List Int×List Aa×List Int))(x5:(List Int×Int×List Aa×List Int)):=(bif (bif (Oc x3 x9) then(Uq x5) else false) then(Wp x5) else false)
def Wq(x5:(List Int×Int×List Aa×List Int)):=(((x5.1.getD (0:Int).toNat (0:Int)):Int)==16910601)
def P8(x3:(Int×List Aa×List Int))(x9:(List Int×List Aa×List Int))(x5:(List Int×Int×List Aa×List Int)):=(bif (Lz x3 x9 x5) then(Wq x5) else false)
def Tn(x3:(Int×List Aa×List Int))(x9:(List Int×List Aa×List Int))(x5:(List Int×Int×List Aa×List Int)):=((bif (Oc x3 x9) then(Uq x5) else false)==true)
def Ur(x15:(List Aa×List Aa×List Int)):AV:=(Uy x15.1 20000)
def Se:=([(9:Int),(9:Int),(9:Int),(9:Int)]:List Int)
def P7(x3:(Int×List Aa×List Int))(x9:(List Int×List Aa×List Int)):=((Qd x3 x9)==true)
def P6(x3:(Int×List Aa×List Int))(x9:(List Int×List Aa×List Int)):=((bif (Qd x3 x9) then(Us x9) else false)==true)
def Vy(x9:(List Int×List Aa×List Int)):List (Nat×Own):=(Z4 x9.2.2.length x9.2.1 x9.2.1.length x9.2.2)
def U6(x18:(Bool×List Aa×List Int)):List (Nat×Own):=(Z4 x18.2.2.length x18.2.1 x18.2.1.length x18.2.2)
def Wg(x15:(List Aa×List Aa×List Int)):List (Nat×Own):=(Z4 x15.2.2.length x15.2.1 x15.2.1.length x15.2.2)
def Wh(x21:(Bool×List Aa×List Int)):List (Nat×Own):=(Z4 x21.2.2.length x21.2.1 x21.2.1.length x21.2.2)
def Up(x1:((Bool×Hu)×Int)):List (Nat×Own):=(Z5 20000 21000 x1.1.2.bytes.length x1.1.2.trace 21001 x1.1.2.bytes x1.1.2.trace.length)
def Uo(x15:(List Aa×List Aa×List Int)):List (Nat×Own):=[(Z2 30000 35000 x15.2.2.length x15.2.1 37001),(K7 37001 x15.2.1.length),(Z1 35000 x15.2.2),(K7 20000 x15.1.length)]
def m_locksteplaw12_awake :Option Bool:=
 ((B6 ([(9:Int),(9:Int),(9:Int),(9:Int)]:List Int)).bind fun x1=>(bif x1.1.1 then(bif (x1.2 !=0) then(some false) else((Br (2:Int) (16:Int) ([(258:Int)]:List Int) x1.1.2.bytes x1.1.2.trace).bind fun x3=>(Ds (x1.1.2.bytes.length=x3.2.2.length) ((Bw (0:Int) (32:Int) (1:Int) x3.2.2 x3.2.1).bind fun x5=>(Ds (x3.2.2.length=x5.2.2.2.length) ((Bw (1:Int) (32:Int) (1:Int) x5.2.2.2 x5.2.2.1).bind fun x7=>(Ds (x5.2.2.2.length=x7.2.2.2.length) ((Bq x7.2.2.2 x7.2.2.1).bind fun x9=>(Ds (x7.2.2.2.length=x9.2.2.length) (Ds (((bif (x3.1==0) then(((x9.1.length:Int):Int)==4) else false)==true)=true→(D5 (2:Int) x9.1.length)) (Ds (((bif (bif (x3.1==0) then(((x9.1.length:Int):Int)==4) else false) then(((x9.1.getD (2:Int).toNat (0:Int)):Int)==2) else false)==true)=true→(D5 (3:Int) x9.1.length)) (Ds (((bif (bif (bif (bif (bif (x3.1==0) then(((x9.1.length:Int):Int)==4) else false) then(((x9.1.getD (2:Int).toNat (0:Int)):Int)==2) else false) then(((x9.1.getD (3:Int).toNat (0:Int)):Int)==1) else false) then(x5.2.1==0) else false) then(((x5.1.length:Int):Int)==1) else false)==true)=true→(D5 (0:Int) x5.1.length)) (bif (bif (bif (bif (bif (bif (bif (bif (x3.1==0) then(((x9.1.length:Int):Int)==4) else false) then(((x9.1.getD (2:Int).toNat (0:Int)):Int)==2) else false) then(((x9.1.getD (3:Int).toNat (0:Int)):Int)==1) else false) then(x5.2.1==0) else false) then(((x5.1.length:Int):Int)==1) else false) then(((x5.1.getD (0:Int).toNat (0:Int)):Int)==16910601) else false) then(x7.2.1==8) else false) then((B3 x9.2.2 x9.2.1).bind fun x15=>(Ds (x9.2.2.length=x15.2.2.length) (bif (((x15.1.length:Int):Int)==6) then((A0 (3:Int) (1:Int) x15.2.2 x15.2.1).bind fun x18=>(Ds (x15.2.2.length=x18.2.2.length) (bif x18.1 then((A0 (3:Int) (2:Int) x18.2.2 x18.2.1).bind fun x21=>(Ds (x18.2.2.length=x21.2.2.length) (some (!x21.1)))) else(some false)))) else(some false)))) else(some false)))))))))))))) else(some false)))
theorem Er  (r:Bool) (h:m_locksteplaw12_awake=some r):Spec Try.prog 9 [] [] (.bool r) []:=by
 refine Bc mix Try.func9 (fun Γ hq=>?_);unfold m_locksteplaw12_awake at h;refine Cm hq [] [] ?_;obtain⟨x1,hx1,h⟩:=bind_some h;refine gB h (fun hs2 h=>?_) (fun hs2 h=>?_)
 ·refine gR hq [1,2] [11,60011000,60011001] [(10,(AV.list 1 eU8 0 Se .exact))] [⟨[],[(20000,11),(21000,60011000),(21001,60011001)],(.tuple [(bif true then((.ptr 20000 0):AV) else .nilp),(E2 x1.2)]),(bif true then(Up x1) else[]),[]⟩] (ci (Fv 1 eU8 (0:Int) Se) (c1 (show(Spec Try.prog 10 [(AV.list 1 eU8 0 Se .none)] [] (.tuple [(bif true then((.ptr 20000 0):AV) else .nilp),(E2 x1.2)]) (bif true then(Up x1) else[])) from(Tu (fun b_:Bool=>Spec Try.prog 10 [(AV.list 1 eU8 0 Se .none)] [] (.tuple [(bif b_ then((.ptr 20000 0):AV) else .nilp),(E2 x1.2)]) (bif b_ then(Up x1) else[])) hs2 (Cd Se x1 hx1))))) ?_;refine gR hq [1,19] [11,60011000,60011001] [] [] (ci (show((false==false)=true→(false==false)=true) from(fun _=>rfl)) (c1 (show(false=false→(false==false)=true) from(fun _=>rfl)))) ?_;refine gC h (fun h=>?_) (fun h=>?_)
  ·refine Cm hq [0] [] ?_;obtain rfl:=OI h;exact Ie []
  ·obtain⟨x3,hx3,h⟩:=bind_some h;obtain⟨hc4,h⟩:=Am h;refine gR hq [1,3] [11,60011000,60011001] [(21,(AV.list 1 Ct 0 ([(258:Int)]:List Int) .exact))] [⟨[(11,30000),(60011001,37001),(60011000,35000)],[],(E2 x3.1),(Z4 x3.2.2.length x3.2.1 x3.2.1.length x3.2.2),[]⟩] (ci (Fv 1 Ct (0:Int) ([(258:Int)]:List Int)) (c1 (Ed (2:Int) (16:Int) ([(258:Int)]:List Int) x1.1.2.bytes x1.1.2.trace x3 hx3))) ?_;obtain⟨x5,hx5,h⟩:=bind_some h;obtain⟨hc6,h⟩:=Am h;refine gR hq [1,3,4,5] [11,25,60011000,60011001] [] [(Wi 25 x5.1 x5.2.1 x5.2.2.2.length x5.2.2.1 x5.2.2.1.length x5.2.2.2 x5.1.length)] (c1 (E0 (0:Int) (32:Int) (1:Int) x3.2.2 x3.2.1 x5 hx5)) ?_;obtain⟨x7,hx7,h⟩:=bind_some h;obtain⟨hc8,h⟩:=Am h;refine gR hq [1,3,4,5,7] [11,25,60011000,60011001] [] [(Wi 30 x7.1 x7.2.1 x7.2.2.2.length x7.2.2.1 x7.2.2.1.length x7.2.2.2 x7.1.length)] (c1 (E0 (1:Int) (32:Int) (1:Int) x5.2.2.2 x5.2.2.1 x7 hx7)) ?_;obtain⟨x9,hx9,h⟩:=bind_some h;obtain⟨hc10,h⟩:=Am h;refine gR hq [1,3,4,5,7,8] [11,25,34,60011000,60011001] [] [(Wk 11 60011001 60011000 34 x9.1 x9.2.2.length x9.2.1 x9.2.1.length x9.2.2 x9.1.length)] (c1 (Ec x7.2.2.2 x7.2.2.1 x9 hx9)) ?_;obtain⟨hc11,h⟩:=Am h;obtain⟨hc12,h⟩:=Am h;obtain⟨hc13,h⟩:=Am h;refine gB h (fun hs14 h=>?_) (fun hs14 h=>?_)
   ·obtain⟨x15,hx15,h⟩:=bind_some h;obtain⟨hc16,h⟩:=Am h;refine gB h (fun hs17 h=>?_) (fun hs17 h=>?_)
    ·obtain⟨x18,hx18,h⟩:=bind_some h;obtain⟨hc19,h⟩:=Am h;refine gB h (fun hs20 h=>?_) (fun hs20 h=>?_)
     ·obtain⟨x21,hx21,h⟩:=bind_some h;obtain⟨hc22,h⟩:=Am h;refine gR hq [0] [] [(73,(.bool true)),(79,(.bool true)),(83,(.bool true))] [(Z7 (Ur x15) (Uo x15)),(Z3 11 60011001 60011000 x18.1 (U6 x18)),(Z3 11 60011001 60011000 x21.1 (Wh x21))] (ci (gI (To x3)) (ci (gI (To x3)) (ci (Gs (x3.1==0)) (ci (gI (P7 x3 x9)) (ci hc11 (ci (gI (P7 x3 x9)) (ci (gI (P7 x3 x9)) (ci (Gs (Qd x3 x9)) (ci (gI (P6 x3 x9)) (ci hc12 (ci (gI (P6 x3 x9)) (ci (gI (P6 x3 x9)) (ci (Gs (bif (Qd x3 x9) then(Us x9) else false)) (ci (gI ((Oc x3 x9)==true)) (ci (Gs (Oc x3 x9)) (ci (gI (Tn x3 x9 x5)) (ci (gI (Tn x3 x9 x5)) (ci (Gs (bif (Oc x3 x9) then(Uq x5) else false)) (ci (gI ((Lz x3 x9 x5)==true)) (ci hc13 (ci (gI ((Lz x3 x9 x5)==true)) (ci (gI ((Lz x3 x9 x5)==true)) (ci (Gs (Lz x3 x9 x5)) (ci (gI ((P8 x3 x9 x5)==true)) (ci (Gs (P8 x3 x9 x5)) (ci (show(AVle (.bool (bif (P8 x3 x9 x5) then(x7.2.1==8) else false)) (.bool true)) from(Cw hs14)) (ci (show((true==true)=true→(true==true)=true) from(fun _=>rfl)) (ci (show((true==true)=true→(Spec Try.prog 21 [(.ptr 30000 0)] (Vy x9) (Ur x15) (Uo x15))) from(fun _=>(Cy x9.2.2 x9.2.1 x15 hx15))) (ci (show((true==true)=true→(true==true)=true) from(fun _=>rfl)) (ci (show((true==true)=true→(true==true)=true) from(fun _=>rfl)) (ci (show(true=true→(true==true)=true) from(fun _=>rfl)) (ci (show(AVle (.bool (((x15.1.length:Int):Int)==6)) (.bool true)) from(Cw hs17)) (ci (show((true==true)=true→(true==true)=true) from(fun _=>rfl)) (ci (show((true==true)=true→(Spec Try.prog 16 [(.ptr 30000 0),Tp,Tq] (Wg x15) (.bool x18.1) (U6 x18))) from(fun _=>(A7 (3:Int) (1:Int) x15.2.2 x15.2.1 x18 hx18))) (ci (show(true=true→(true==true)=true) from(fun _=>rfl)) (ci (show(AVle (.bool x18.1) (.bool true)) from(Cw hs20)) (ci (show((true==true)=true→(true==true)=true) from(fun _=>rfl)) (ci (show((true==true)=true→(Spec Try.prog 16 [(.ptr 30000 0),Tp,(.int .i64 (2:Int))] (U6 x18) (.bool x21.1) (Wh x21))) from(fun _=>(A7 (3:Int) (2:Int) x18.2.2 x18.2.1 x21 hx21))) (ci (show((true==true)=true→(true==true)=true) from(fun _=>rfl)) (c1 (show(true=true→(true==true)=true) from(fun _=>rfl)))))))))))))))))))))))))))))))))))))))))) ?_;cases h;exact Ie []
     ·refine gR hq [0] [] [(73,(.bool true)),(79,(.bool true)),(83,(.bool false))] [(Z7 (Ur x15) (Uo x15)),(Z3 11 60011001 60011000 x18.1 (U6 x18)),Ux] (ci (gI (To x3)) (ci (gI (To x3)) (ci (Gs (x3.1==0)) (ci (gI (P7 x3 x9)) (ci hc11 (ci (gI (P7 x3 x9)) (ci (gI (P7 x3 x9)) (ci (Gs (Qd x3 x9)) (ci (gI (P6 x3 x9)) (ci hc12 (ci (gI (P6 x3 x9)) (ci (gI (P6 x3 x9)) (ci (Gs (bif (Qd x3 x9) then(Us x9) else false)) (ci (gI ((Oc x3 x9)==true)) (ci (Gs (Oc x3 x9)) (ci (gI (Tn x3 x9 x5)) (ci (gI (Tn x3 x9 x5)) (ci (Gs (bif (Oc x3 x9) then(Uq x5) else false)) (ci (gI ((Lz x3 x9 x5)==true)) (ci hc13 (ci (gI ((Lz x3 x9 x5)==true)) (ci (gI ((Lz x3 x9 x5)==true)) (ci (Gs (Lz x3 x9 x5)) (ci (gI ((P8 x3 x9 x5)==true)) (ci (Gs (P8 x3 x9 x5)) (ci (show(AVle (.bool (bif (P8 x3 x9 x5) then(x7.2.1==8) else false)) (.bool true)) from(Cw hs14)) (ci (show((true==true)=true→(true==true)=true) from(fun _=>rfl)) (ci (show((true==true)=true→(Spec Try.prog 21 [(.ptr 30000 0)] (Vy x9) (Ur x15) (Uo x15))) from(fun _=>(Cy x9.2.2 x9.2.1 x15 hx15))) (ci (show((true==true)=true→(true==true)=true) from(fun _=>rfl)) (ci (show((true==true)=true→(true==true)=true) from(fun _=>rfl)) (ci (show(true=true→(true==true)=true) from(fun _=>rfl)) (ci (show(AVle (.bool (((x15.1.length:Int):Int)==6)) (.bool true)) from(Cw hs17)) (ci (show((true==true)=true→(true==true)=true) from(fun _=>rfl)) (ci (show((true==true)=true→(Spec Try.prog 16 [(.ptr 30000 0),Tp,Tq] (Wg x15) (.bool x18.1) (U6 x18))) from(fun _=>(A7 (3:Int) (1:Int) x15.2.2 x15.2.1 x18 hx18))) (ci (show(true=true→(true==true)=true) from(fun _=>rfl)) (ci (show(AVle (.bool x18.1) (.bool false)) from(Cw hs20)) (ci (show((false==true)=true→(false==true)=true) from Da) (ci (show((false==true)=true→(Spec Try.prog 16 [.any,Tp,(.int .i64 (2:Int))] [] (.bool false) [])) from Da) (ci (show((false==true)=true→(false==true)=true) from Da) (c1 (show(false=true→(false==true)=true) from Da))))))))))))))))))))))))))))))))))))))))) ?_;obtain rfl:=OI h;exact Ie []
    ·refine gR hq [0] [] [(73,(.bool true)),(79,(.bool false))] [(Z7 (Ur x15) (Uo x15)),Ux,Ux] (ci (gI (To x3)) (ci (gI (To x3)) (ci (Gs (x3.1==0)) (ci (gI (P7 x3 x9)) (ci hc11 (ci (gI (P7 x3 x9)) (ci (gI (P7 x3 x9)) (ci (Gs (Qd x3 x9)) (ci (gI (P6 x3 x9)) (ci hc12 (ci (gI (P6 x3 x9)) (ci (gI (P6 x3 x9)) (ci (Gs (bif (Qd x3 x9) then(Us x9) else false)) (ci (gI ((Oc x3 x9)==true)) (ci (Gs (Oc x3 x9)) (ci (gI (Tn x3 x9 x5)) (ci (gI (Tn x3 x9 x5)) (ci (Gs (bif (Oc x3 x9) then(Uq x5) else false)) (ci (gI ((Lz x3 x9 x5)==true)) (ci hc13 (ci (gI ((Lz x3 x9 x5)==true)) (ci (gI ((Lz x3 x9 x5)==true)) (ci (Gs (Lz x3 x9 x5)) (ci (gI ((P8 x3 x9 x5)==true)) (ci (Gs (P8 x3 x9 x5)) (ci (show(AVle (.bool (bif (P8 x3 x9 x5) then(x7.2.1==8) else false)) (.bool true)) from(Cw hs14)) (ci (show((true==true)=true→(true==true)=true) from(fun _=>rfl)) (ci (show((true==true)=true→(Spec Try.prog 21 [(.ptr 30000 0)] (Vy x9) (Ur x15) (Uo x15))) from(fun _=>(Cy x9.2.2 x9.2.1 x15 hx15))) (ci (show((true==true)=true→(true==true)=true) from(fun _=>rfl)) (ci (show((true==true)=true→(true==true)=true) from(fun _=>rfl)) (ci (show(true=true→(true==true)=true) from(fun _=>rfl)) (ci (show(AVle (.bool (((x15.1.length:Int):Int)==6)) (.bool false)) from(Cw hs17)) (ci (show((false==true)=true→(false==true)=true) from Da) (ci (show((false==true)=true→(Spec Try.prog 16 [.any,Tp,Tq] [] (.bool false) [])) from Da) (ci (show(false=true→(false==true)=true) from Da) (ci (show((false==true)=true→(false==true)=true) from Da) (ci (show((false==true)=true→(Spec Try.prog 16 [.any,Tp,(.int .i64 (2:Int))] [] (.bool false) [])) from Da) (ci (show((false==true)=true→(false==true)=true) from Da) (c1 (show(false=true→(false==true)=true) from Da)))))))))))))))))))))))))))))))))))))))) ?_;obtain rfl:=OI h;exact Ie []
   ·refine gR hq [0] [] [(73,(.bool false))] [⟨[],[],Z9,[],[]⟩,Ux,Ux] (ci (gI (To x3)) (ci (gI (To x3)) (ci (Gs (x3.1==0)) (ci (gI (P7 x3 x9)) (ci hc11 (ci (gI (P7 x3 x9)) (ci (gI (P7 x3 x9)) (ci (Gs (Qd x3 x9)) (ci (gI (P6 x3 x9)) (ci hc12 (ci (gI (P6 x3 x9)) (ci (gI (P6 x3 x9)) (ci (Gs (bif (Qd x3 x9) then(Us x9) else false)) (ci (gI ((Oc x3 x9)==true)) (ci (Gs (Oc x3 x9)) (ci (gI (Tn x3 x9 x5)) (ci (gI (Tn x3 x9 x5)) (ci (Gs (bif (Oc x3 x9) then(Uq x5) else false)) (ci (gI ((Lz x3 x9 x5)==true)) (ci hc13 (ci (gI ((Lz x3 x9 x5)==true)) (ci (gI ((Lz x3 x9 x5)==true)) (ci (Gs (Lz x3 x9 x5)) (ci (gI ((P8 x3 x9 x5)==true)) (ci (Gs (P8 x3 x9 x5)) (ci (show(AVle (.bool (bif (P8 x3 x9 x5) then(x7.2.1==8) else false)) (.bool false)) from(Cw hs14)) (ci (show((false==true)=true→(false==true)=true) from Da) (ci (show((false==true)=true→(Spec Try.prog 21 [.any] [] Z9 [])) from Da) (ci (show((false==true)=true→(false==true)=true) from Da) (ci (show((false==true)=true→(false==true)=true) from Da) (ci (show(false=true→(false==true)=true) from Da) (ci (show((false==true)=true→(false==true)=true) from Da) (ci (show((false==true)=true→(Spec Try.prog 16 [.any,Tp,Tq] [] (.bool false) [])) from Da) (ci (show(false=true→(false==true)=true) from Da) (ci (show((false==true)=true→(false==true)=true) from Da) (ci (show((false==true)=true→(Spec Try.prog 16 [.any,Tp,(.int .i64 (2:Int))] [] (.bool false) [])) from Da) (ci (show((false==true)=true→(false==true)=true) from Da) (c1 (show(false=true→(false==true)=true) from Da))))))))))))))))))))))))))))))))))))))) ?_;obtain rfl:=OI h;exact Ie []
 ·refine gR hq [1,2] [] [(10,(AV.list 1 eU8 0 Se .exact))] [⟨[],[],(.tuple [(bif false then((.ptr 20000 0):AV) else .nilp),(E2 x1.2)]),(bif false then(Up x1) else[]),[]⟩] (ci (Fv 1 eU8 (0:Int) Se) (c1 (show(Spec Try.prog 10 [(AV.list 1 eU8 0 Se .none)] [] (.tuple [(bif false then((.ptr 20000 0):AV) else .nilp),(E2 x1.2)]) (bif false then(Up x1) else[])) from(Tu (fun b_:Bool=>Spec Try.prog 10 [(AV.list 1 eU8 0 Se .none)] [] (.tuple [(bif b_ then((.ptr 20000 0):AV) else .nilp),(E2 x1.2)]) (bif b_ then(Up x1) else[])) hs2 (Cd Se x1 hx1))))) ?_;refine gR hq [1,19] [] [] [] (ci (show((true==false)=true→(true==false)=true) from Da) (c1 (show(true=false→(true==false)=true) from Sg))) ?_;refine Sq true ?_;refine Cm hq [0] [] ?_;obtain rfl:=OI h;exact Ie []
def U7(x1:List Int):=(fun i=>eU8 (x1.getD i 0))
def Bl(a0:List Int)(a1:List Aa):Option (List Int×List Aa×List Int):=
 ((Ah a0).bind fun x1=>(some (x1,a1,a0)))
theorem F6(a0:List Int)(a1:List Aa)(r:(List Int×List Aa×List Int))(h:Bl a0 a1=some r):Spec Try.prog 19 [(.ptr 30000 0)] [(30000,.row 63 [(.vsl 35000 a0.length),(AV.list 3 Ag default a1 .none)]),(35000,.arr 1 5 a0.length (fun i=>eU8 (a0.getD i 0)))] (AV.list 1 eU8 0 r.1 (.own 20000)) [(30000,.row 63 [(.vsl 35000 r.2.2.length),(AV.list 3 Ag default r.2.1 .none)]),(35000,.arr 1 5 r.2.2.length (fun i=>eU8 (r.2.2.getD i 0))),(20000,.tok 1 5 r.1.length)]:=by
 refine Bc mix Try.func19 (fun Γ hq=>?_);have hΓ:=hq.own;unfold Bl at h;refine gR hq [0] [30000,35000] [(2,(AV.list 1 eU8 0 ([]:List Int) .exact))] [] (c1 (Co 1 eU8 (0:Int))) ?_;refine Cm hq [0,4] [30000,35000] ?_;refine Sq false ?_;obtain⟨x1,hx1,h⟩:=bind_some h;refine gR hq [2] [9,30000,35000] [] [⟨[],[(20000,9)],(.vsl 20000 x1.length),[(20000,.arr 1 5 x1.length (U7 x1))],[35000]⟩] (ci (Bf a0 x1 hx1) (ci (show(I4 [(20000,.arr 1 5 x1.length (U7 x1))]) from⟨(fun _ _=>rfl),trivial⟩) (c1 (Eq.refl a0.length)))) ?_;refine Sp (⟨[(2,(.vsl 9 x1.length))],[(9,.arr 1 5 x1.length (U7 x1)),(Uw 30000 35000 a0.length a1),(Z1 35000 a0)],[]⟩:St) ?_;cases h;exact gK (e:=.ret) (On [(30000,30000),(35000,35000),(9,20000)] (Le.trans (Hj (nm:=9) (sz:=1) (n:=x1.length) (e:=5) (f:=(U7 x1)) (g:=(U7 x1)) rfl ⟨rfl,trivial⟩ (fun _ _=>rfl) (by rw[hΓ];rfl)) (Rj (st':=⟨[(2,(AV.list 1 eU8 0 x1 (.own 9)))],[(9,.tok 1 5 x1.length),(Uw 30000 35000 a0.length a1),(Z1 35000 a0)],[]⟩) (by kernel_rfl))))
def Bm(a0:List Int)(a1:List Aa):Option (List Aa×List Aa×List Int):=
 ((Aj a1).bind fun x1=>(some (x1,a1,a0)))
theorem F7(a0:List Int)(a1:List Aa)(r:(List Aa×List Aa×List Int))(h:Bm a0 a1=some r):Spec Try.prog 21 [(.ptr 30000 0)] [(30000,.row 63 [(.vsl 35000 a0.length),(AV.list 3 Ag default a1 .none)]),(35000,.arr 1 5 a0.length (fun i=>eU8 (a0.getD i 0)))] (AV.list 3 Ag default r.1 (.own 20000)) [(30000,.row 63 [(.vsl 35000 r.2.2.length),(AV.list 3 Ag default r.2.1 .none)]),(35000,.arr 1 5 r.2.2.length (fun i=>eU8 (r.2.2.getD i 0))),(20000,.tok 3 49 r.1.length)]:=by
 refine Bc mix Try.func21 (fun Γ hq=>?_);unfold Bm at h;refine gR hq [0] [30000,35000] [(2,Z8)] [] (c1 (Co 3 Ag (default:Aa))) ?_;refine Cm hq [0,4] [30000,35000] ?_;refine Sq false ?_;obtain⟨x1,hx1,h⟩:=bind_some h;refine gR hq [2] [9,30000,35000] [] [⟨[],[(20000,9)],(Uy x1 20000),[(K7 20000 x1.length)],[]⟩] (c1 (Bh a1 x1 hx1)) ?_;cases h;exact Ie [(30000,30000),(35000,35000),(9,20000)]
def Av(a2:List Int)(a4:(Int×Int))(a8:Int)(x6:(Int×List Aa×List Int))(x8:(List Int×List Aa×List Int))(x10:(List Int×List Aa×List Int)):Int→Option (LR Int (Unit ⊕ Bool)):=
 fun(i15:Int)=>(bif (decide (i15<(a2.length:Int))) then(Ds (D5 i15 a2.length) (Option.bind (α:=Int) (bif (bif (bif (x6.1==0) then(decide (((D4 a4.1):Int)≤i15)) else false) then(decide (i15<(D4 ((D4 a4.1)+4)))) else false) then(Ds (0≤(C8 (D4 ((8:Int)*(D4 (i15-(D4 a4.1))))))) (some (P5 (Ke .u64 a8 (C8 (D4 ((8:Int)*(D4 (i15-(D4 a4.1)))))))))) else(some (a2.getD i15.toNat 0))) (fun x19=>(Ds (D5 i15 x8.1.length) (Ds (((((x8.1.getD i15.toNat 0):Int)!=x19)==false)=true→(D5 i15 x10.1.length)) (Ds (((((x8.1.getD i15.toNat 0):Int)!=x19)==false)=true→(D5 i15 a2.length)) (bif (bif (((x8.1.getD i15.toNat 0):Int)!=x19) then true else(((x10.1.getD i15.toNat 0):Int)!=(a2.getD i15.toNat 0))) then(some (.done (.inr false))) else(some (.next (D4 (i15+1))))))))))) else(some (.done (.inl ()))))
def D6(Γ:Cu)(a2:List Int)(a4:(Int×Int))(a8:Int)(r:Bool):Exit→St→Prop:=fK Try.prog Γ Try.f6.results.toList [] (.bool r) []
def E5:=(false==false)
def Ly:=((.ptr 20000 0):AV)
def K6(x6:(Int×List Aa×List Int)):=(x6.1==0)
def O9:=(bif true then Ly else .nilp)
def O8:=(bif false then Ly else .nilp)
def M9(a2:List Int):AV:=(AV.list 1 eU8 0 a2 .none)
def Lx(x8:(List Int×List Aa×List Int))(i15:Int)(x19:Int):=((((x8.1.getD i15.toNat 0):Int)!=x19)==false)
def T0(x6:(Int×List Aa×List Int))(a4:(Int×Int))(i15:Int):=(bif (K6 x6) then(decide (((D4 a4.1):Int)≤i15)) else false)
def Tz(x8:(List Int×List Aa×List Int)):List AV:=[(.vsl 60021000 x8.2.2.length),(Uy x8.2.1 60021001)]
def U4(x13:(List Aa×List Aa×List Int)):List (Nat×Own):=[(Uw 30000 35000 x13.2.2.length x13.2.1),(Z1 35000 x13.2.2),(K7 20000 x13.1.length)]
def Vz(x26:(Bool×List Aa×List Int)):List (Nat×Own):=(Z4 x26.2.2.length x26.2.1 x26.2.1.length x26.2.2)
def U3(x29:(Bool×List Aa×List Int)):List (Nat×Own):=(Z4 x29.2.2.length x29.2.1 x29.2.1.length x29.2.2)
def Uu(x2:((Bool×Hu)×Int)):List (Nat×Own):=(Z5 20000 21000 x2.1.2.bytes.length x2.1.2.trace 21001 x2.1.2.bytes x2.1.2.trace.length)
def Uv(x4:((Bool×Hu)×Int)):List (Nat×Own):=(Z5 20000 21000 x4.1.2.bytes.length x4.1.2.trace 21001 x4.1.2.bytes x4.1.2.trace.length)
def Ut(x32:((Bool×Hu)×Int)):List (Nat×Own):=(Z5 20000 21000 x32.1.2.bytes.length x32.1.2.trace 21001 x32.1.2.bytes x32.1.2.trace.length)
def Bd(a2:List Int)(a4:(Int×Int))(a8:Int):Option Bool:=
 (m_locksteplaw12_awake.bind fun x1=>(bif (!x1) then(some false) else((B6 a2).bind fun x2=>(bif x2.1.1 then((B6 a2).bind fun x4=>(bif x4.1.1 then(bif (bif (x2.2 !=0) then true else(x4.2 !=0)) then(some (decide (((4096:Int):Int)<(a2.length:Int)))) else((Br (C8 a4.1) (32:Int) ([a8]:List Int) x2.1.2.bytes x2.1.2.trace).bind fun x6=>(Ds (x2.1.2.bytes.length=x6.2.2.length) ((Bq x6.2.2 x6.2.1).bind fun x8=>(Ds (x6.2.2.length=x8.2.2.length) ((Bl x4.1.2.bytes x4.1.2.trace).bind fun x10=>(Ds (x4.1.2.bytes.length=x10.2.2.length) (bif (((x8.1.length:Int):Int)!=(a2.length:Int)) then(some false) else((Bm x10.2.2 x10.2.1).bind fun x13=>(Ds (x10.2.2.length=x13.2.2.length) (bif (((x13.1.length:Int):Int)!=0) then(some false) else((Cn (Av a2 a4 a8 x6 x8 x10) (0:Int)).bind (fun x24=>(match x24 with|(.inl _)=>((A0 (C8 a4.1) (4:Int) x8.2.2 x8.2.1).bind fun x26=>(Ds (x8.2.2.length=x26.2.2.length) (bif ((x6.1==0)==x26.1) then((A0 (C8 a4.2) (1:Int) x26.2.2 x26.2.1).bind fun x29=>(Ds (x26.2.2.length=x29.2.2.length) (some (x29.1==(decide (((D4 a4.2):Int)<(a2.length:Int))))))) else(some false))))|(.inr r31)=>(some r31))))))))))))))) else(some (decide (((4096:Int):Int)<(a2.length:Int)))))) else((B6 a2).bind fun x32=>(bif x32.1.1 then(some (decide (((4096:Int):Int)<(a2.length:Int)))) else(some (decide (((4096:Int):Int)<(a2.length:Int))))))))))
theorem ok_locksteplaw12_MemApart(a2:List Int)(a4:(Int×Int))(a8:Int)(r:Bool)(h:Bd a2 a4 a8=some r):Spec Try.prog 6 [(AV.list 1 eU8 0 a2 .none),(.agg (eA2U16 a4)),(.int .u64 a8)] [] (.bool r) []:=by
 refine Bc mix Try.func6 (fun Γ hq=>?_);unfold Bd at h;refine Cm hq [0,2,4] [4] ?_;obtain⟨x1,hx1,h⟩:=bind_some h;refine gR hq [0,2,4,18] [4] [] [⟨[],[],(.bool x1),[],[]⟩] (c1 (Er  x1 hx1)) ?_;refine gC h (fun h=>?_) (fun h=>?_)
 ·refine Cm hq [6] [] ?_;obtain rfl:=OI h;exact Ie []
 ·obtain⟨x2,hx2,h⟩:=bind_some h;refine gB h (fun hs3 h=>?_) (fun hs3 h=>?_)
  ·refine gR hq [0,2,4,7,8] [4,21,60021000,60021001] [] [(Z6 21 60021000 60021001 O9 x2.2 (Uu x2))] (c1 (show(Spec Try.prog 10 [(M9 a2)] [] (.tuple [O9,(E2 x2.2)]) (bif true then(Uu x2) else[])) from(Tu (fun b_:Bool=>Spec Try.prog 10 [(M9 a2)] [] (.tuple [(bif b_ then Ly else .nilp),(E2 x2.2)]) (bif b_ then(Uu x2) else[])) hs3 (Cd a2 x2 hx2)))) ?_;obtain⟨x4,hx4,h⟩:=bind_some h;refine gB h (fun hs5 h=>?_) (fun hs5 h=>?_)
   ·refine gR hq [0,2,4,7,8,9,10] [4,21,26,60021000,60021001,60026000,60026001] [] [(Z6 26 60026000 60026001 O9 x4.2 (Uv x4))] (c1 (show(Spec Try.prog 10 [(M9 a2)] [] (.tuple [O9,(E2 x4.2)]) (bif true then(Uv x4) else[])) from(Tu (fun b_:Bool=>Spec Try.prog 10 [(M9 a2)] [] (.tuple [(bif b_ then Ly else .nilp),(E2 x4.2)]) (bif b_ then(Uv x4) else[])) hs5 (Cd a2 x4 hx4)))) ?_;refine gR hq [0,2,4,7,9,42] [4,21,26,60021000,60021001,60026000,60026001] [] [] (ci (show(E5=true→E5=true) from(fun _=>rfl)) (ci (show(false=false→E5=true) from(fun _=>rfl)) (ci (show(E5=true→E5=true) from(fun _=>rfl)) (ci (show(false=false→E5=true) from(fun _=>rfl)) (ci (gI ((x2.2 !=0)==false)) (c1 (T9 (x2.2 !=0)))))))) ?_;refine gC h (fun h=>?_) (fun h=>?_)
    ·refine Cm hq [6] [] ?_;cases h;exact Ie []
    ·obtain⟨x6,hx6,h⟩:=bind_some h;obtain⟨hc7,h⟩:=Am h;refine gR hq [0,2,4,7,9,11] [4,21,26,60021000,60021001,60026000,60026001] [(51,(AV.list 1 Ct 0 ([a8]:List Int) .exact))] [⟨[(21,30000),(60021001,37001),(60021000,35000)],[],(E2 x6.1),(Z4 x6.2.2.length x6.2.1 x6.2.1.length x6.2.2),[]⟩] (ci (show(D5 (0:Int) 2) from(by decide)) (ci (Fv 1 Ct (0:Int) ([a8]:List Int)) (c1 (Ed (C8 a4.1) (32:Int) ([a8]:List Int) x2.1.2.bytes x2.1.2.trace x6 hx6)))) ?_;obtain⟨x8,hx8,h⟩:=bind_some h;obtain⟨hc9,h⟩:=Am h;refine gR hq [0,2,4,7,9,11,12] [4,21,26,54,60021000,60021001,60026000,60026001] [] [(Wk 21 60021001 60021000 54 x8.1 x8.2.2.length x8.2.1 x8.2.1.length x8.2.2 x8.1.length)] (c1 (Ec x6.2.2 x6.2.1 x8 hx8)) ?_;refine Sp (⟨[(0,(M9 a2)),(2,(.int .u64 a8)),(4,(.ptr 4 0)),(7,(.ptr 21 0)),(9,(.ptr 26 0)),(11,(E2 x6.1)),(12,(AV.list 1 eU8 0 x8.1 (.own 54)))],[(4,.row 56 [(.int .u16 a4.1),(.int .u16 a4.2)]),(21,.row 63 (Tz x8)),(Z2 26 60026000 x4.1.2.bytes.length x4.1.2.trace 60026001),(54,.tok 1 5 x8.1.length),(Z1 60021000 x8.2.2),(K7 60021001 x8.2.1.length),(Z1 60026000 x4.1.2.bytes),(K7 60026001 x4.1.2.trace.length)],[]⟩:St) ?_;refine Vd (show Le Γ _ (⟨[(0,(M9 a2)),(2,(.int .u64 a8)),(4,(.ptr 4 0)),(7,(.ptr 21 0)),(9,(.ptr 26 0)),(11,(E2 x6.1)),(12,(AV.list 1 eU8 0 x8.1 (.own 54)))],[(4,.row 56 [(.int .u16 a4.1),(.int .u16 a4.2)]),(21,.row 63 (Tz x8)),(Uw 26 60026000 x4.1.2.bytes.length x4.1.2.trace),(54,.tok 1 5 x8.1.length),(Z1 60021000 x8.2.2),(K7 60021001 x8.2.1.length),(Z1 60026000 x4.1.2.bytes)],[]⟩:St) from Jb [0,2,4,7,9,11,12] [4,21,26,54,60021000,60021001,60026000] hq) ?_;obtain⟨x10,hx10,h⟩:=bind_some h;obtain⟨hc11,h⟩:=Am h;refine gR hq [0,2,4,7,9,11,12,13] [4,21,26,54,56,60021000,60021001,60026000] [] [⟨[(26,30000),(60026000,35000)],[(20000,56)],(AV.list 1 eU8 0 x10.1 (.own 20000)),[(Uw 30000 35000 x10.2.2.length x10.2.1),(Z1 35000 x10.2.2),(20000,.tok 1 5 x10.1.length)],[]⟩] (c1 (F6 x4.1.2.bytes x4.1.2.trace x10 hx10)) ?_;refine gB h (fun hs12 h=>?_) (fun hs12 h=>?_)
     ·refine gR hq [0,2,4,7,11,12,13,67] [4,21,54,56,60021000,60021001] [(62,(.bool true))] [⟨[],[],Z9,[],[]⟩] (ci (show(AVle (.bool (((x8.1.length:Int):Int)!=(a2.length:Int))) (.bool true)) from(Cw hs12)) (ci (show((true==false)=true→(true==false)=true) from Da) (ci (show((true==false)=true→(Spec Try.prog 21 [.any] [] Z9 [])) from Da) (ci (show((true==false)=true→(true==false)=true) from Da) (ci (show((true==false)=true→(true==false)=true) from Da) (c1 (show(true=false→(true==false)=true) from Sg))))))) ?_;refine Sq true ?_;refine Cm hq [6] [] ?_;obtain rfl:=OI h;exact Ie []
     ·obtain⟨x13,hx13,h⟩:=bind_some h;obtain⟨hc14,h⟩:=Am h;refine gR hq [0,2,4,7,11,12,13,67] [4,21,54,56,60021000,60021001] [(62,(.bool false))] [⟨[(26,30000),(60026000,35000)],[(20000,64)],(Uy x13.1 20000),(U4 x13),[]⟩] (ci (show(AVle (.bool (((x8.1.length:Int):Int)!=(a2.length:Int))) (.bool false)) from(Cw hs12)) (ci (show(E5=true→E5=true) from(fun _=>rfl)) (ci (show(E5=true→(Spec Try.prog 21 [(.ptr 30000 0)] [(Uw 30000 35000 x10.2.2.length x10.2.1),(Z1 35000 x10.2.2)] (Uy x13.1 20000) (U4 x13))) from(fun _=>(F7 x10.2.2 x10.2.1 x13 hx13))) (ci (show(E5=true→E5=true) from(fun _=>rfl)) (ci (show(E5=true→E5=true) from(fun _=>rfl)) (c1 (show(false=false→E5=true) from(fun _=>rfl)))))))) ?_;refine gC h (fun h=>?_) (fun h=>?_)
      ·refine Cm hq [6] [] ?_;obtain rfl:=OI h;exact Ie []
      ·refine Cm hq [0,2,4,7,11,12,13,14] [4,21,54,56,60021000,60021001] ?_;obtain⟨x24,hx24,h⟩:=bind_some h;refine gL hq hx24 [0,2,4,7,11,12,13,14] [4,21,54,56,60021000,60021001] (fun u i15=>(Ti u [(14,(E2 i15))] [])) (fun u x_=>match x_ with|(.inl _)=>aG Γ (.exit 0) (Wo [0,4,7,11] [4,21,60021000,60021001] u [] [])|(.inr r_)=>aR (D6 Γ a2 a4 a8 r_)) ?_ ?_
       ·intro i15 y h;unfold Av at h;refine Cm hq [0,2,4,7,11,12,13,14,71] [4,21,54,56,60021000,60021001] ?_;refine gC h (fun h=>?_) (fun h=>?_)
        ·refine gR hq [0,2,4,7,11,12,13,14,15] [4,21,54,56,60021000,60021001] [] [] (ci (show(((K6 x6)==true)=true→(D5 (0:Int) 2)) from(fun hg=>(by decide))) (ci (gI ((K6 x6)==true)) (ci (gI ((K6 x6)==true)) (ci (gI ((K6 x6)==true)) (ci (gI ((K6 x6)==true)) (ci (Gs (K6 x6)) (ci (show(((T0 x6 a4 i15)==true)=true→(D5 (0:Int) 2)) from(fun hg=>(by decide))) (ci (gI ((T0 x6 a4 i15)==true)) (ci (gI ((T0 x6 a4 i15)==true)) (ci (gI ((T0 x6 a4 i15)==true)) (ci (gI ((T0 x6 a4 i15)==true)) (ci (gI ((T0 x6 a4 i15)==true)) (c1 (Gs (T0 x6 a4 i15))))))))))))))) ?_;obtain⟨hc16,h⟩:=Am h;refine gR hq [0,2,4,7,11,12,13,14,15,16] [4,21,54,56,60021000,60021001] [] [] (c1 hc16) ?_;obtain⟨x19,hx19,h⟩:=bind_some h;refine gJ hx19 (fun i17=>aG Γ .normal (⟨[(0,(M9 a2)),(2,(.int .u64 a8)),(4,(.ptr 4 0)),(7,(.ptr 21 0)),(11,(E2 x6.1)),(12,(AV.list 1 eU8 0 x8.1 (.own 54))),(13,(AV.list 1 eU8 0 x10.1 (.own 56))),(14,(E2 i15)),(16,(.int .u8 i17))],[(4,.row 56 [(.int .u16 a4.1),(.int .u16 a4.2)]),(21,.row 63 (Tz x8)),(54,.tok 1 5 x8.1.length),(56,.tok 1 5 x10.1.length),(Z1 60021000 x8.2.2),(K7 60021001 x8.2.1.length)],[]⟩:St)) ?_ ?_
         ·clear h hx19;intro y h;refine Cm hq [0,2,4,7,11,12,13,14,16,95] [4,21,54,56,60021000,60021001] ?_;refine gC h (fun h=>?_) (fun h=>?_)
          ·obtain⟨hc18,h⟩:=Am h;refine gR hq [0,2,4,7,11,12,13,14,16] [4,21,54,56,60021000,60021001] [] [] (ci (show(D5 (0:Int) 2) from(by decide)) (c1 hc18)) ?_;cases h;exact gK (Pc Sz)
          ·cases h;exact gK (Pc (Jb [0,2,4,7,11,12,13,14,16] [4,21,54,56,60021000,60021001] hq))
         ·clear hx19;refine gA ?_;obtain⟨hc21,h⟩:=Am h;obtain⟨hc22,h⟩:=Am h;obtain⟨hc23,h⟩:=Am h;refine gR hq [0,2,4,7,11,12,13,14,122] [4,21,54,56,60021000,60021001] [] [] (ci hc21 (ci (gI (Lx x8 i15 x19)) (ci (gI (Lx x8 i15 x19)) (ci hc22 (ci (gI (Lx x8 i15 x19)) (ci (gI (Lx x8 i15 x19)) (ci (gI (Lx x8 i15 x19)) (ci hc23 (ci (gI (Lx x8 i15 x19)) (ci (gI (Lx x8 i15 x19)) (ci (gI (Lx x8 i15 x19)) (c1 (T9 (((x8.1.getD i15.toNat 0):Int)!=x19)))))))))))))) ?_;refine gC h (fun h=>?_) (fun h=>?_)
          ·refine Cm hq [6] [] ?_;cases h;exact gO (T3 (On [] (Le.refl _ _)))
          ·refine Cm hq [0,2,4,7,11,12,13,14] [4,21,54,56,60021000,60021001] ?_;cases h;exact gN Sz
        ·cases h;exact gO (Pc (Jb [0,4,7,11] [4,21,60021000,60021001] hq))
       ·clear hx24;rcases x24 with _|r31
        ·refine gA ?_;obtain⟨x26,hx26,h⟩:=bind_some h;obtain⟨hc27,h⟩:=Am h;refine gB h (fun hs28 h=>?_) (fun hs28 h=>?_)
         ·obtain⟨x29,hx29,h⟩:=bind_some h;obtain⟨hc30,h⟩:=Am h;refine gR hq [6] [] [(131,(.bool true))] [(Z3 21 60021001 60021000 x26.1 (Vz x26)),(Z3 21 60021001 60021000 x29.1 (U3 x29))] (ci (show(D5 (0:Int) 2) from(by decide)) (ci (A7 (C8 a4.1) (4:Int) x8.2.2 x8.2.1 x26 hx26) (ci (show(AVle (.bool ((K6 x6)==x26.1)) (.bool true)) from(Cw hs28)) (ci (show((true==true)=true→(D5 (1:Int) 2)) from(fun _=>(by decide))) (ci (show((true==true)=true→(true==true)=true) from(fun _=>rfl)) (ci (show((true==true)=true→(true==true)=true) from(fun _=>rfl)) (ci (show((true==true)=true→(true==true)=true) from(fun _=>rfl)) (ci (show((true==true)=true→(true==true)=true) from(fun _=>rfl)) (ci (show((true==true)=true→(Spec Try.prog 16 [(.ptr 30000 0),(.int .u64 (C8 a4.2)),Tq] (Vz x26) (.bool x29.1) (U3 x29))) from(fun _=>(A7 (C8 a4.2) (1:Int) x26.2.2 x26.2.1 x29 hx29))) (ci (show((true==true)=true→(D5 (1:Int) 2)) from(fun _=>(by decide))) (ci (show((true==true)=true→(true==true)=true) from(fun _=>rfl)) (ci (show((true==true)=true→(true==true)=true) from(fun _=>rfl)) (ci (show((true==true)=true→(true==true)=true) from(fun _=>rfl)) (ci (show((true==true)=true→(true==true)=true) from(fun _=>rfl)) (ci (show((true==true)=true→(true==true)=true) from(fun _=>rfl)) (ci (show((true==true)=true→(true==true)=true) from(fun _=>rfl)) (ci (show((true==true)=true→(true==true)=true) from(fun _=>rfl)) (c1 (show(true=true→(true==true)=true) from(fun _=>rfl)))))))))))))))))))) ?_;cases h;exact Ie []
         ·refine gR hq [6] [] [(131,(.bool false))] [(Z3 21 60021001 60021000 x26.1 (Vz x26)),Ux] (ci (show(D5 (0:Int) 2) from(by decide)) (ci (A7 (C8 a4.1) (4:Int) x8.2.2 x8.2.1 x26 hx26) (ci (show(AVle (.bool ((K6 x6)==x26.1)) (.bool false)) from(Cw hs28)) (ci (show((false==true)=true→(D5 (1:Int) 2)) from Da) (ci (show((false==true)=true→(false==true)=true) from Da) (ci (show((false==true)=true→(false==true)=true) from Da) (ci (show((false==true)=true→(false==true)=true) from Da) (ci (show((false==true)=true→(false==true)=true) from Da) (ci (show((false==true)=true→(Spec Try.prog 16 [.any,(.int .u64 (C8 a4.2)),Tq] [] (.bool false) [])) from Da) (ci (show((false==true)=true→(D5 (1:Int) 2)) from Da) (ci (show((false==true)=true→(false==true)=true) from Da) (ci (show((false==true)=true→(false==true)=true) from Da) (ci (show((false==true)=true→(false==true)=true) from Da) (ci (show((false==true)=true→(false==true)=true) from Da) (ci (show((false==true)=true→(false==true)=true) from Da) (ci (show((false==true)=true→(false==true)=true) from Da) (ci (show((false==true)=true→(false==true)=true) from Da) (c1 (show(false=true→(false==true)=true) from Da))))))))))))))))))) ?_;obtain rfl:=OI h;exact Ie []
        ·refine V5 (fun st' hk=>?_);obtain rfl:=OI h;exact gK hk
   ·refine gR hq [0,2,4,7,8,9,10] [4,21,60021000,60021001] [] [⟨[],[],(.tuple [O8,(E2 x4.2)]),(bif false then(Uv x4) else[]),[]⟩] (c1 (show(Spec Try.prog 10 [(M9 a2)] [] (.tuple [O8,(E2 x4.2)]) (bif false then(Uv x4) else[])) from(Tu (fun b_:Bool=>Spec Try.prog 10 [(M9 a2)] [] (.tuple [(bif b_ then Ly else .nilp),(E2 x4.2)]) (bif b_ then(Uv x4) else[])) hs5 (Cd a2 x4 hx4)))) ?_;refine gR hq [0,2,4,7,9,42] [4,21,60021000,60021001] [] [] (ci (show(E5=true→E5=true) from(fun _=>rfl)) (ci (show(false=false→E5=true) from(fun _=>rfl)) (ci (show((true==false)=true→(true==false)=true) from Da) (ci (show(true=false→(true==false)=true) from Sg) (ci (show((true==false)=true→(true==false)=true) from Da) (c1 (show(true=false→(true==false)=true) from Sg))))))) ?_;refine Sq true ?_;refine Cm hq [6] [] ?_;cases h;exact Ie []
  ·refine gR hq [0,2,4,7,8] [4] [] [⟨[],[],(.tuple [O8,(E2 x2.2)]),(bif false then(Uu x2) else[]),[]⟩] (c1 (show(Spec Try.prog 10 [(M9 a2)] [] (.tuple [O8,(E2 x2.2)]) (bif false then(Uu x2) else[])) from(Tu (fun b_:Bool=>Spec Try.prog 10 [(M9 a2)] [] (.tuple [(bif b_ then Ly else .nilp),(E2 x2.2)]) (bif b_ then(Uu x2) else[])) hs3 (Cd a2 x2 hx2)))) ?_;obtain⟨x32,hx32,h⟩:=bind_some h;refine gB h (fun hs33 h=>?_) (fun hs33 h=>?_)
   ·refine gR hq [0,2,4,7,8,9,10] [4,26,60026000,60026001] [] [(Z6 26 60026000 60026001 O9 x32.2 (Ut x32))] (c1 (show(Spec Try.prog 10 [(M9 a2)] [] (.tuple [O9,(E2 x32.2)]) (bif true then(Ut x32) else[])) from(Tu (fun b_:Bool=>Spec Try.prog 10 [(M9 a2)] [] (.tuple [(bif b_ then Ly else .nilp),(E2 x32.2)]) (bif b_ then(Ut x32) else[])) hs33 (Cd a2 x32 hx32)))) ?_;refine gR hq [0,2,4,7,9,42] [4,26,60026000,60026001] [] [] (ci (show((true==false)=true→(true==false)=true) from Da) (ci (show(true=false→(true==false)=true) from Sg) (ci (show((true==false)=true→(true==false)=true) from Da) (ci (show(true=false→(true==false)=true) from Sg) (ci (show((true==false)=true→(true==false)=true) from Da) (c1 (show(true=false→(true==false)=true) from Sg))))))) ?_;refine Sq true ?_;refine Cm hq [6] [] ?_;cases h;exact Ie []
   ·refine gR hq [0,2,4,7,8,9,10] [4] [] [⟨[],[],(.tuple [O8,(E2 x32.2)]),(bif false then(Ut x32) else[]),[]⟩] (c1 (show(Spec Try.prog 10 [(M9 a2)] [] (.tuple [O8,(E2 x32.2)]) (bif false then(Ut x32) else[])) from(Tu (fun b_:Bool=>Spec Try.prog 10 [(M9 a2)] [] (.tuple [(bif b_ then Ly else .nilp),(E2 x32.2)]) (bif b_ then(Ut x32) else[])) hs33 (Cd a2 x32 hx32)))) ?_;refine gR hq [0,2,4,7,9,42] [4] [] [] (ci (show((true==false)=true→(true==false)=true) from Da) (ci (show(true=false→(true==false)=true) from Sg) (ci (show((true==false)=true→(true==false)=true) from Da) (ci (show(true=false→(true==false)=true) from Sg) (ci (show((true==false)=true→(true==false)=true) from Da) (c1 (show(true=false→(true==false)=true) from Sg))))))) ?_;refine Sq true ?_;refine Cm hq [6] [] ?_;cases h;exact Ie []
theorem Eu{n:Int}(h:-9223372036854775808≤n)(h':n<9223372036854775808):D4 n=n:=by
 show IntKind.i64.wrap n=n
 simp only[IntKind.wrap,IntKind.bits,IntKind.signed]
 simp
 split<;>omega
theorem Cs{n:Int}(h:0≤n)(h':n<18446744073709551616):C8 n=n:=by
 show IntKind.u64.wrap n=n
 simp[IntKind.wrap,IntKind.bits,IntKind.signed];omega
theorem O5(n:Int):P5 n=n % 256:=by
 show IntKind.u8.wrap n=_
 simp[IntKind.wrap,IntKind.bits,IntKind.signed]
theorem Kv(w n:Nat)(h:n<2 ^ w):(BitVec.ofInt w (n:Int)).toNat=n:=by
 rw[BitVec.toNat_ofInt,← Int.natCast_emod,Int.toNat_natCast,Nat.mod_eq_of_lt h]
theorem M6(k:IntKind)(hk:k.signed=false){n:Nat}(h:n<2 ^ k.bits):k.wrap (n:Int)=n:=by
 simp only[IntKind.wrap,hk,Bool.false_and,Bool.false_eq_true,if_false]
 have:((2:Int) ^ k.bits)=((2 ^ k.bits:Nat):Int):=by simp
 rw[this,← Int.natCast_emod,Nat.mod_eq_of_lt h]
theorem Sm(k:IntKind)(hk:k.signed=false){a b:Nat}(ha:a<2 ^ k.bits)(hb:b<2 ^ k.bits):Ey .or k a b=((a ||| b:Nat):Int):=by
 simp only[Ey,BitVec.toNat_or,Kv _ _ ha,Kv _ _ hb];exact M6 k hk (Nat.or_lt_two_pow ha hb)
theorem Ui(k:IntKind)(hk:k.signed=false)(j:Nat){a b:Nat}(ha:a<2 ^ j)(hb:a+b*2 ^ j<2 ^ k.bits){y:Int}(hy:y=((b*2 ^ j:Nat):Int)):Ey .or k a y=((a+b*2 ^ j:Nat):Int):=by
 subst hy;rw[Sm k hk (by omega) (by omega),Nat.or_comm,Nat.mul_comm b,← Nat.two_pow_add_eq_or_of_lt ha,Nat.add_comm]
theorem Mj{x:Int}(j:Nat):x.fdiv (2 ^ j)=x / 2 ^ j:=by rw[Int.fdiv_eq_ediv_of_nonneg _ (by exact Int.le_of_lt (Int.pow_pos (by decide)))]
theorem D7{α:Type}(l:List α)(i:Nat)(d:α)(h:i<l.length):l.getD i d=l[i]:=by simp[List.getD,h]
theorem Rf{α:Type}{l:List α}{i:Nat}{d:α}(h:i<l.length):l.getD i d∈l:=by rw[D7 _ _ _ h];exact List.getElem_mem h
theorem Sv{i n:Nat}(h:i<n):D5 (i:Int) n:=⟨by omega,by exact_mod_cast h⟩
theorem Rl{S X:Type}(f:S→Option (LR S X))(T:Nat→S)(x:X):∀(n:Nat),(∀ i,i<n→f (T i)=some (.next (T (i+1))))→f (T n)=some (.done x)→Cn f (T 0)=some x:=by
 suffices h:∀(k i n:Nat),i+k=n→(∀ j,i≤j→j<n→f (T j)=some (.next (T (j+1))))→f (T n)=some (.done x)→Cn f (T i)=some x from
  fun n h1 h2=>h n 0 n (by omega) (fun j _ hj=>h1 j hj) h2
 intro k
 induction k with
 | zero=>
  intro i n hi _ h2
  have hin:n=i:=by omega
  subst hin;exact B0 h2
 | succ k ih=>intro i n hi h1 h2;rw[Dl (h1 i (Nat.le_refl _) (by omega))];exact ih (i+1) n (by omega) (fun j hj hj'=>h1 j (by omega) hj') h2
theorem B1(i:Nat):((i:Int)).toNat=i:=Int.toNat_natCast i
theorem w1{i:Nat}(h:i<4611686018427387904):D4 ((i:Int)+1)=((i+1:Nat):Int):=by rw[Eu (by omega) (by omega)];omega
theorem Iy{i n:Nat}(h:i<n):decide (((i:Nat):Int)<((n:Nat):Int))=true:=by simpa using h
theorem Me{n:Nat}:decide (((n:Nat):Int)<((n:Nat):Int))=false:=by simp
theorem Sw{i n:Nat}(h:i<n):D5 ((i:Nat):Int) n:=Sv h
def F5(B:List Int):Prop:=∀ x∈B,0≤x∧x<256
def J3:Nat→Int→List Int
 | 0,_=>[]
 | s+1,v=>v % 256::J3 s (v / 256)
def S3:List Int→Int
 | []=>0
 | b::l=>b+256*S3 l
def M8(w:Bool):Nat→List Int→List Aa
 | _,[]=>[]
 | a,b::l=>⟨w,(a:Int),b⟩::M8 w (a+1) l
def Ee:List Int→Nat→List Int→List Int
 | B,_,[]=>B
 | B,a,b::l=>Ee (B.set a b) (a+1) l
def Fn(B:List Int)(a s:Nat):List Int:=(B.drop a).take s
theorem Gw(s:Nat)(v:Int):(J3 s v).length=s:=by induction s generalizing v with|zero=>rfl|succ s ih=>simp[J3,ih]
theorem T7(s:Nat)(v:Int):F5 (J3 s v):=by
 induction s generalizing v with
 | zero=>intro x hx;cases hx
 | succ s ih=>
  intro x hx;rcases List.mem_cons.1 hx with rfl|hx
  ·omega
  ·exact ih _ x hx
theorem Lv(w:Bool)(a:Nat)(l:List Int):(M8 w a l).length=l.length:=by induction l generalizing a with|nil=>rfl|cons b l ih=>simp[M8,ih]
theorem Jp(B:List Int)(a:Nat)(l:List Int):(Ee B a l).length=B.length:=by induction l generalizing B a with|nil=>rfl|cons b l ih=>simp[Ee,ih]
theorem Tb{B:List Int}{a:Nat}{l:List Int}(hB:F5 B)(hl:F5 l):F5 (Ee B a l):=by
 induction l generalizing B a with
 | nil=>exact hB
 | cons b l ih=>
  refine ih (fun x hx=>?_) fun x hx=>hl x (List.mem_cons_of_mem _ hx);rcases List.mem_or_eq_of_mem_set hx with h|h
  ·exact hB x h
  ·rw[h];exact hl b (List.mem_cons_self ..)
theorem Sb{B:List Int}{a s:Nat}(h:a+s≤B.length):(Fn B a s).length=s:=by simp[Fn];omega
theorem P2(B:List Int)(a:Nat):Fn B a 0=[]:=by simp[Fn]
theorem P1{B:List Int}{a s:Nat}(h:a<B.length):Fn B a (s+1)=B.getD a 0::Fn B (a+1) s:=by
 unfold Fn;rw[List.drop_eq_getElem_cons h,List.take_succ_cons,D7 _ _ _ h]
theorem Sr{B:List Int}(hB:F5 B)(i:Nat):0≤B.getD i 0∧B.getD i 0<256:=by
 by_cases h:i<B.length
 ·exact hB _ (Rf h)
 ·simp[List.getD,h]
theorem R2(n:Nat):(0:Int)<256 ^ n:=Int.pow_pos (by decide)
def Uk(N:Nat)(a n:Int):Bool:=decide (1≤n)&&decide (a+n≤N)
theorem D0{B:List Int}{T:List Aa}{a n:Int}(ha:0≤a)(hB:B.length<4611686018427387904):A0 a n B T=some (Uk B.length a n,T,B):=by
 unfold A0 Uk;rw[cond_false]
 by_cases h1:n<1
 ·rw[show decide (n<(1:Int))=true from decide_eq_true (by omega),cond_true,cond_true];rw[show decide (1≤n)=false from decide_eq_false (by omega),Bool.false_and]
 ·rw[show decide (n<(1:Int))=false from decide_eq_false (by omega),cond_false,show decide (1≤n)=true from decide_eq_true (by omega),Bool.true_and]
  by_cases h2:(B.length:Int)<n
  ·rw[show decide ((B.length:Int)<n)=true from decide_eq_true (by omega),cond_true];rw[show decide (a+n≤(B.length:Int))=false from decide_eq_false (by omega)]
  ·rw[show decide ((B.length:Int)<n)=false from decide_eq_false (by omega),cond_false];rw[Eu (by omega) (by omega),Cs (by omega) (by omega)];rw[show decide (a≤(B.length:Int)-n)=decide (a+n≤(B.length:Int)) from decide_eq_decide.2 (by omega)]
theorem Uj{v b:Int}{i:Nat}(h0:0≤v)(h1:v<256 ^ i)(hb:0≤b)(hb':b<256)(hi:i<8):Ey .or .u64 v (P0 .u64 (C8 b) (D4 (8*(i:Int))))=v+256 ^ i*b:=by
 have e1:(256:Int) ^ i=((2 ^ (8*i):Nat):Int):=by rw[Nat.pow_mul];exact(Int.natCast_pow 256 i).symm
 obtain⟨V,rfl⟩:∃ V:Nat,v=V:=⟨v.toNat,by omega⟩;obtain⟨C,rfl⟩:∃ C:Nat,b=C:=⟨b.toNat,by omega⟩;rw[e1]at h1 ⊢;have h1:V<2 ^ (8*i):=Int.ofNat_lt.1 h1;have hC:C<256:=Int.ofNat_lt.1 hb'
 have hp:2 ^ (8*i)*256≤2 ^ 64:=by
  have:2 ^ (8*i)*2 ^ 8=2 ^ (8*i+8):=by rw[Nat.pow_add]
  have h2:(2:Nat) ^ (8*i+8)≤2 ^ 64:=Nat.pow_le_pow_right (by decide) (by omega);omega
 have hlt:V+C*2 ^ (8*i)<2 ^ 64:=by
  have:C*2 ^ (8*i)≤255*2 ^ (8*i):=Nat.mul_le_mul_right _ (by omega);omega
 rw[Eu (by omega) (by omega),Cs (by omega) (by omega)]
 have e2:P0 .u64 (C:Int) (8*(i:Int))=((C*2 ^ (8*i):Nat):Int):=by
  unfold P0
  have:(8*(i:Int)).toNat=8*i:=by omega
  rw[this,show min (8*i) IntKind.u64.bits=8*i by simp[IntKind.bits];omega]
  have e3:(C:Int)*2 ^ (8*i)=((C*2 ^ (8*i):Nat):Int):=by rw[Int.natCast_mul,Int.natCast_pow];rfl
  rw[e3];exact M6 .u64 rfl (by simp[IntKind.bits];omega)
 rw[Ui .u64 rfl (8*i) h1 (by simpa [IntKind.bits] using hlt) e2];rw[Int.natCast_add,Int.natCast_mul,Int.mul_comm]
theorem O0{B:List Int}(hB:F5 B)(hL:B.length<4611686018427387904){s:Nat}(hs:s≤8):∀(k i cur:Nat) (v:Int) (t:List Aa),i+k=s→cur+k≤B.length→0≤v→v<256 ^ i→t.length+k≤room→
  Cn (A6 (s:Int) B) ((cur:Int),v,(i:Int),t)=some (v+256 ^ i*S3 (Fn B cur k),t++M8 false cur (Fn B cur k))
 | 0,i,cur,v,t,hi,hc,h0,h1,hr=>by
  obtain rfl:i=s:=by omega
  refine B0 ?_;unfold A6;simp only;rw[Me,cond_false,P2];simp[S3,M8]
 | k+1,i,cur,v,t,hi,hc,h0,h1,hr=>by
  obtain⟨b0,b1⟩:=Sr hB cur
  have step:A6 (s:Int) B ((cur:Int),v,(i:Int),t)=some (.next (((cur+1:Nat):Int),v+256 ^ i*B.getD cur 0,((i+1:Nat):Int),t++[⟨false,(cur:Int),B.getD cur 0⟩])):=by
   unfold A6;simp only;rw[Iy (by omega),cond_true,Ao (Sw (by omega)),Ao (by simp;omega),Ao (by rw[Eu (by omega) (by omega)];omega),B1,Uj h0 h1 b0 b1 (by omega),w1 (by omega),Cs (by omega) (by omega)]
   rfl
  rw[Dl step,O0 hB hL hs k (i+1) (cur+1) _ _ (by omega) (by omega) (by have:=Int.mul_nonneg (Int.le_of_lt (R2 i)) b0;omega) (by
   rw[Int.pow_succ];have:256 ^ i*B.getD cur 0≤256 ^ i*255:=Int.mul_le_mul_of_nonneg_left (by omega) (Int.le_of_lt (R2 i))
   omega) (by simp;omega),P1 (by omega)]
  simp only[S3,M8,Int.pow_succ,List.append_assoc,List.singleton_append];rw[Int.mul_add,Int.add_assoc,Int.mul_assoc]
theorem Pq{B:List Int}{T:List Aa}(hB:F5 B)(hL:B.length<4611686018427387904){s cur:Nat}(hs:s≤8)(hc:cur+s≤B.length)(hr:T.length+s≤room) :
  Bt (cur:Int) (s:Int) B T=some (S3 (Fn B cur s),T++M8 false cur (Fn B cur s),B):=by
 unfold Bt;have:=O0 hB hL hs s 0 cur 0 T (by omega) hc (by decide) (by decide) hr;rw[show((0:Nat):Int)=0 from rfl]at this;rw[this]
 simp
theorem Wa{v:Int}:Ke .u64 v (8:Int)=v / 256:=by
 unfold Ke
 have:min (8:Int).toNat IntKind.u64.bits=8:=by decide
 rw[this,Mj]
 rfl
theorem O4{s:Nat}(hs:s≤8):∀(k i cur:Nat) (v:Int) (t:List Aa) (B:List Int),i+k=s→cur+k≤B.length→B.length<4611686018427387904→t.length+k≤room→
  Cn (A2 (s:Int)) ((cur:Int),v,(i:Int),t,B)=some (t++M8 true cur (J3 k v),Ee B cur (J3 k v))
 | 0,i,cur,v,t,B,hi,hc,hL,hr=>by
  obtain rfl:i=s:=by omega
  refine B0 ?_;unfold A2;simp only;rw[Me,cond_false];simp[J3,M8,Ee]
 | k+1,i,cur,v,t,B,hi,hc,hL,hr=>by
  have step:A2 (s:Int) ((cur:Int),v,(i:Int),t,B)=some (.next (((cur+1:Nat):Int),v / 256,((i+1:Nat):Int),t++[⟨true,(cur:Int),v % 256⟩],B.set cur (v % 256))):=by
   unfold A2;simp only;rw[Iy (by omega),cond_true,Ao (Sw (by omega)),Ao (by simp;omega),B1,Wa,O5,w1 (by omega),Cs (by omega) (by omega)]
   rfl
  rw[Dl step,O4 hs k (i+1) (cur+1) _ _ _ (by omega) (by simp;omega) (by simpa using hL) (by simp;omega)];simp[J3,M8,Ee]
theorem Ny{B:List Int}{T:List Aa}{v:Int}(hL:B.length<4611686018427387904){s cur:Nat}(hs:s≤8)(hc:cur+s≤B.length)(hr:T.length+s≤room) :
  Bn (cur:Int) (s:Int) v B T=some (T++M8 true cur (J3 s v),Ee B cur (J3 s v)):=by
 unfold Bn;have:=O4 hs s 0 cur v T B (by omega) hc hL hr;rw[show((0:Nat):Int)=0 from rfl]at this;rw[this]
 rfl
def M7(B:List Int)(s:Nat):Nat→Nat→List Int×Bool×List Aa
 | 0,_=>([],true,[])
 | n+1,cur=>if cur+s≤B.length then(S3 (Fn B cur s)::(M7 B s n (cur+s)).1,(M7 B s n (cur+s)).2.1,M8 false cur (Fn B cur s)++(M7 B s n (cur+s)).2.2) else([],false,[])
def Ib(s:Nat):List Int→Nat→List Int→Bool×List Aa×List Int
 | [],_,B=>(true,[],B)
 | v::l,cur,B=>if cur+s≤B.length then((Ib s l (cur+s) (Ee B cur (J3 s v))).1,M8 true cur (J3 s v)++(Ib s l (cur+s) (Ee B cur (J3 s v))).2.1,(Ib s l (cur+s) (Ee B cur (J3 s v))).2.2) else(false,[],B)
theorem Tk{s:Nat}(l:List Int)(cur:Nat)(B:List Int):(Ib s l cur B).2.1.length≤l.length*s∧(Ib s l cur B).2.2.length=B.length:=by
 induction l generalizing cur B with
 | nil=>simp[Ib]
 | cons v l ih=>
  unfold Ib
  split
  ·have:=ih (cur+s) (Ee B cur (J3 s v));rw[Jp]at this;simp[Lv,Gw,Nat.succ_mul];omega
  ·simp
theorem Ul{s:Nat}(l:List Int)(cur:Nat){B:List Int}(hB:F5 B):F5 (Ib s l cur B).2.2:=by
 induction l generalizing cur B with
 | nil=>simpa [Ib] using hB
 | cons v l ih=>
  unfold Ib
  split
  ·exact ih _ (Tb hB (T7 _ _))
  ·exact hB
def P9(bits:Int):Bool:=bits==8 || bits==16 || bits==32 || bits==64
def Hl(bits n:Int):Bool:=P9 bits&&decide (0≤n)&&decide (n≤16)
theorem wdB_cases{bits:Int}(h:P9 bits=true):bits=8∨bits=16∨bits=32∨bits=64:=by
 simp only[P9,Bool.or_eq_true,beq_iff_eq]at h;omega
theorem Kt(bits:Int):B7 bits=some (bif P9 bits then bits / 8 else 0):=by
 by_cases h:P9 bits=true
 ·rw[h,cond_true];rcases wdB_cases h with rfl|rfl|rfl|rfl<;>decide
 ·have h':P9 bits=false:=by simpa using h
  rw[h',cond_false];simp only[P9,Bool.or_eq_false_iff]at h';obtain⟨⟨⟨h1,h2⟩,h3⟩,h4⟩:=h';unfold B7;rw[h1,cond_false,h2,cond_false,h3,cond_false,h4]
  rfl
theorem Tj{bits:Int}(h:P9 bits=true):∃ s:Nat,bits / 8=(s:Int)∧1≤s∧s≤8∧bits=8*(s:Int)∧D4 (Int.tdiv bits 8)=(s:Int):=by
 rcases wdB_cases h with rfl|rfl|rfl|rfl
 ·exact⟨1,by decide,by decide,by decide,by decide,by decide⟩
 ·exact⟨2,by decide,by decide,by decide,by decide,by decide⟩
 ·exact⟨4,by decide,by decide,by decide,by decide,by decide⟩
 ·exact⟨8,by decide,by decide,by decide,by decide,by decide⟩
theorem Hc{N s cur:Nat}(hs:1≤s):Uk N (cur:Int) (s:Int)=decide (cur+s≤N):=by
 unfold Uk;rw[show decide (1≤(s:Int))=true from decide_eq_true (by omega),Bool.true_and];exact decide_eq_decide.2 (by omega)
theorem R4{B:List Int}(hB:F5 B)(hL:B.length<4611686018427387904){s:Nat}(hs:s≤8)(hs1:1≤s){N:Nat}(hN:N≤16):∀(k i cur:Nat) (done:List Int) (t:List Aa),i+k=N→done.length=i→t.length+k*8≤room→
  Cn (A8 (N:Int) (s:Int)) ((cur:Int),(i:Int),done++List.replicate k 0,t,B) =
   some (if(M7 B s k cur).2.1=true then .inl (done++(M7 B s k cur).1,t++(M7 B s k cur).2.2,B) else .inr (t++(M7 B s k cur).2.2,B))
 | 0,i,cur,done,t,hi,hd,hr=>by
  obtain rfl:i=N:=by omega
  refine B0 ?_;unfold A8;simp only;rw[List.length_replicate,B1,Me,cond_false];simp[M7]
 | k+1,i,cur,done,t,hi,hd,hr=>by
  by_cases hc:cur+s≤B.length
  ·have step:A8 (N:Int) (s:Int) ((cur:Int),(i:Int),done++List.replicate (k+1) 0,t,B)=some (.next (((cur+s:Nat):Int),((i+1:Nat):Int),(done++[S3 (Fn B cur s)])++List.replicate k 0,t++M8 false cur (Fn B cur s),B)):=by
    unfold A8;simp only;rw[List.length_replicate,B1,Iy (by omega),cond_true,D0 (by omega) hL,Option.bind_some,Ao rfl,Hc hs1];simp only;rw[show decide (cur+s≤B.length)=true from decide_eq_true (by omega),Bool.not_true,cond_false,Pq hB hL hs hc (by omega),Option.bind_some,Ao rfl,Ao (Sw (by simp;omega)),w1 (by omega),Cs (n:=(s:Int)) (by omega) (by omega),Cs (by omega) (by omega),B1]
    have e:(done++List.replicate (k+1) (0:Int)).set i (S3 (Fn B cur s))=(done++[S3 (Fn B cur s)])++List.replicate k 0:=by
     rw[List.replicate_succ,List.set_append_right _ _ (by omega),hd,Nat.sub_self,List.set_cons_zero,List.append_assoc];rfl
    rw[e]
    simp
   rw[Dl step,R4 hB hL hs hs1 hN k (i+1) (cur+s) _ _ (by omega) (by simp[hd]) (by simp[Lv,Sb hc];omega)];rw[M7,if_pos hc];simp only[List.append_assoc,List.singleton_append]
  ·rw[M7,if_neg hc];refine B0 ?_;unfold A8;simp only;rw[List.length_replicate,B1,Iy (by omega),cond_true,D0 (by omega) hL,Option.bind_some,Ao rfl,Hc hs1];simp only;rw[show decide (cur+s≤B.length)=false from decide_eq_false (by omega),Bool.not_false,cond_true]
   simp
def RD(a bits n:Int)(B:List Int)(T:List Aa):List Int×Int×List Aa×List Int:=
 if Hl bits n=true then(if(M7 B (bits / 8).toNat n.toNat a.toNat).2.1=true then((M7 B (bits / 8).toNat n.toNat a.toNat).1,0,T++(M7 B (bits / 8).toNat n.toNat a.toNat).2.2,B) else([],8,T++(M7 B (bits / 8).toNat n.toNat a.toNat).2.2,B)) else([],1,T,B)
theorem Ov{bits n:Int}:(bif bif (bif P9 bits then bits / 8 else 0)==0 then true else decide (n<0) then true else decide (16<n)) = !Hl bits n:=by
 unfold Hl
 cases h:P9 bits with
 | false=>rfl
 | true=>
  obtain⟨s,h1,h2,h3,_⟩:=Tj h;rw[cond_true,h1,show((s:Int)==0)=false by simp;omega,cond_false,Bool.true_and]
  by_cases h4:n<0
  ·rw[decide_eq_true h4,cond_true,decide_eq_false (show ¬ (0≤n) by omega)];rfl
  ·rw[decide_eq_false h4,cond_false,decide_eq_true (show 0≤n by omega),Bool.true_and]
   by_cases h5:16<n
   ·rw[decide_eq_true h5,decide_eq_false (show ¬ n≤16 by omega)];rfl
   ·rw[decide_eq_false h5,decide_eq_true (show n≤16 by omega)];rfl
theorem Rn{a bits n:Int}{B:List Int}{T:List Aa}(ha:0≤a)(hB:F5 B)(hL:B.length<4611686018427387904)(hr:T.length+128≤room):Bw a bits n B T=some (RD a bits n B T):=by
 unfold Bw RD;rw[Kt,Option.bind_some,Ov]
 cases hm:Hl bits n with
 | false=>simp[D9]
 | true=>
  simp only[Hl,Bool.and_eq_true,decide_eq_true_iff]at hm;obtain⟨⟨hw,h0⟩,h1⟩:=hm;obtain⟨s,h2,h3,h4,h5,h6⟩:=Tj hw;obtain⟨N,rfl⟩:∃ N:Nat,n=N:=⟨n.toNat,by omega⟩;obtain⟨A,rfl⟩:∃ A:Nat,a=A:=⟨a.toNat,by omega⟩;rw[Bool.not_true,cond_false,hw,cond_true,h2,Ao ⟨h0,Int.le_refl _,by have:room=1099511627776:=rfl;omega⟩,B1,B1,B1];have:=R4 hB hL h4 h3 (N:=N) (by omega) N 0 A [] T (by omega) rfl (by omega);rw[List.nil_append,show((0:Nat):Int)=0 from rfl]at this;rw[this]
  by_cases hk:(M7 B s N A).2.1=true
  ·rw[if_pos hk,if_pos hk];rfl
  ·rw[if_neg hk,if_neg hk,Option.bind_some]
   show(D9 (some (.next _)) _).bind _=_
   unfold D9;rw[Option.bind_some];simp only;rw[B0 (x:=(([]:List Int),(8:Int),T++(M7 B s N A).2.2,B)) rfl]
   rfl
theorem Sd{s:Nat}(hs:s≤8)(hs1:1≤s){L:List Int}(hN:L.length≤16):∀(k i cur:Nat) (t:List Aa) (B:List Int),i+k=L.length→B.length<4611686018427387904→t.length+k*8≤room→
  Cn (A5 L (s:Int)) ((cur:Int),(i:Int),t,B) =
   some (if(Ib s (L.drop i) cur B).1=true then .inl (t++(Ib s (L.drop i) cur B).2.1,(Ib s (L.drop i) cur B).2.2) else .inr (t++(Ib s (L.drop i) cur B).2.1,(Ib s (L.drop i) cur B).2.2))
 | 0,i,cur,t,B,hi,hL,hr=>by
  obtain rfl:i=L.length:=by omega
  refine B0 ?_;unfold A5;simp only;rw[Me,cond_false,List.drop_length];simp[Ib]
 | k+1,i,cur,t,B,hi,hL,hr=>by
  have hd:L.drop i=L.getD i 0::L.drop (i+1):=by rw[List.drop_eq_getElem_cons (by omega),D7 _ _ _ (by omega)]
  by_cases hc:cur+s≤B.length
  ·have step:A5 L (s:Int) ((cur:Int),(i:Int),t,B)=some (.next (((cur+s:Nat):Int),((i+1:Nat):Int),t++M8 true cur (J3 s (L.getD i 0)),Ee B cur (J3 s (L.getD i 0)))):=by
    unfold A5;simp only;rw[Iy (by omega),cond_true,Ao (Sw (by omega)),D0 (by omega) hL,Option.bind_some,Ao rfl,Hc hs1];simp only;rw[show decide (cur+s≤B.length)=true from decide_eq_true (by omega),Bool.not_true,cond_false,B1,Ny hL hs hc (by omega),Option.bind_some,Ao (by rw[Jp]),w1 (by omega),Cs (n:=(s:Int)) (by omega) (by omega),Cs (by omega) (by omega)]
    simp
   rw[Dl step,Sd hs hs1 hN k (i+1) (cur+s) _ _ (by omega) (by rw[Jp];exact hL) (by simp[Lv,Gw];omega)];rw[hd,Ib,if_pos hc];simp only[List.append_assoc]
  ·rw[hd,Ib,if_neg hc];refine B0 ?_;unfold A5;simp only;rw[Iy (by omega),cond_true,Ao (Sw (by omega)),D0 (by omega) hL,Option.bind_some,Ao rfl,Hc hs1];simp only;rw[show decide (cur+s≤B.length)=false from decide_eq_false (by omega),Bool.not_false,cond_true]
   simp
def WR(a bits:Int)(L:List Int)(B:List Int)(T:List Aa):Int×List Aa×List Int:=
 if Hl bits L.length=true then(if(Ib (bits / 8).toNat L a.toNat B).1=true then 0 else 8,T++(Ib (bits / 8).toNat L a.toNat B).2.1,(Ib (bits / 8).toNat L a.toNat B).2.2) else(1,T,B)
theorem Rr{bits:Int}{n:Nat}:(bif (bif P9 bits then bits / 8 else 0)==0 then true else decide (16<(n:Int))) = !Hl bits n:=by
 rw[← Ov,show decide ((n:Int)<0)=false from decide_eq_false (by omega)]
 cases(bif P9 bits then bits / 8 else 0)==0<;>rfl
theorem Ou{a bits:Int}{L B:List Int}{T:List Aa}(ha:0≤a)(hL:B.length<4611686018427387904)(hr:T.length+128≤room):Br a bits L B T=some (WR a bits L B T):=by
 unfold Br WR;rw[Kt,Option.bind_some,Rr]
 cases hm:Hl bits L.length with
 | false=>simp[D9]
 | true=>
  simp only[Hl,Bool.and_eq_true,decide_eq_true_iff]at hm;obtain⟨⟨hw,h0⟩,h1⟩:=hm;obtain⟨s,h2,h3,h4,h5,h6⟩:=Tj hw;obtain⟨A,rfl⟩:∃ A:Nat,a=A:=⟨a.toNat,by omega⟩;rw[Bool.not_true,cond_false,hw,cond_true,h2,B1,B1];have:=Sd h4 h3 (L:=L) (by omega) L.length 0 A T B (by omega) hL (by omega);rw[List.drop_zero,show((0:Nat):Int)=0 from rfl]at this;rw[this]
  by_cases hk:(Ib s L A B).1=true
  ·rw[if_pos hk,if_pos rfl,if_pos hk];rfl
  ·rw[if_neg hk,if_pos rfl,if_neg hk,Option.bind_some]
   show(D9 (some (.next _)) _).bind _=_
   unfold D9;rw[Option.bind_some];simp only;rw[B0 (x:=((8:Int),T++(Ib s L A B).2.1,(Ib s L A B).2.2)) rfl]
   rfl
theorem Io:room=1099511627776:=rfl
theorem Mq{b:List Int}(h:b.length≤4096):B6 b=some ((true,⟨b,[]⟩),0):=by
 unfold B6 Ah;rw[decide_eq_false (by omega),cond_false,Ao (by rw[Io];omega)]
 rfl
theorem Po{b:List Int}(h:4096<b.length):B6 b=some ((false,default),4):=by
 unfold B6;rw[decide_eq_true (by omega),cond_true]
theorem Ot{B:List Int}{T:List Aa}(h:B.length≤room):Bq B T=some (B,T,B):=by
 unfold Bq Ah;rw[Ao h];rfl
theorem Rm{B:List Int}{T:List Aa}(h:B.length≤room):Bl B T=some (B,T,B):=by
 unfold Bl Ah;rw[Ao h];rfl
theorem S0{B:List Int}{T:List Aa}(h:T.length≤room):B3 B T=some (T,T,B):=by
 unfold B3 Aj;rw[Ao (by simpa using h)];rfl
theorem Ro{B:List Int}{T:List Aa}(h:T.length≤room):Bm B T=some (T,T,B):=by
 unfold Bm Aj;rw[Ao (by simpa using h)];rfl
theorem Qf:WR 2 16 [258] [9,9,9,9] []=(0,[⟨true,2,2⟩,⟨true,3,1⟩],[9,9,2,1]):=by decide
theorem Pa:RD 0 32 1 [9,9,2,1] [⟨true,2,2⟩,⟨true,3,1⟩]=([16910601],0,[⟨true,2,2⟩,⟨true,3,1⟩,⟨false,0,9⟩,⟨false,1,9⟩,⟨false,2,2⟩,⟨false,3,1⟩],[9,9,2,1]):=by decide
theorem Pb:RD 1 32 1 [9,9,2,1] [⟨true,2,2⟩,⟨true,3,1⟩,⟨false,0,9⟩,⟨false,1,9⟩,⟨false,2,2⟩,⟨false,3,1⟩]=([],8,[⟨true,2,2⟩,⟨true,3,1⟩,⟨false,0,9⟩,⟨false,1,9⟩,⟨false,2,2⟩,⟨false,3,1⟩],[9,9,2,1]):=by decide
theorem Kw:F5 [9,9,2,1]:=by unfold F5;decide
theorem Pp:m_locksteplaw12_awake=some true:=by
 unfold m_locksteplaw12_awake;rw[Mq (by decide),Option.bind_some]
 dsimp only
 rw[cond_true,show((0:Int)!=0)=false by decide,cond_false,Ou (by decide) (by decide) (by decide),Qf,Option.bind_some]
 dsimp only
 rw[Ao (by decide),Rn (by decide) Kw (by decide) (by decide),Pa,Option.bind_some]
 dsimp only
 rw[Ao (by decide),Rn (by decide) Kw (by decide) (by decide),Pb,Option.bind_some]
 dsimp only
 rw[Ao (by decide),Ot (by decide),Option.bind_some]
 dsimp only
 rw[Ao (by decide),Ao (by decide),Ao (by decide),Ao (by decide)];rw[S0 (by decide),Option.bind_some]
 dsimp only
 rw[Ao (by decide),D0 (by decide) (by decide),Option.bind_some]
 dsimp only
 rw[Ao (by decide),D0 (by decide) (by decide),Option.bind_some]
 dsimp only
 rw[Ao (by decide)]
 rfl
theorem Rq{bits n:Int}(h:Hl bits n=true):(bits / 8).toNat≤8∧n.toNat≤16:=by
 simp only[Hl,Bool.and_eq_true,decide_eq_true_iff]at h;obtain⟨⟨hw,h0⟩,h1⟩:=h;obtain⟨s,h2,h3,h4,_⟩:=Tj hw;omega
theorem Oe(a bits:Int)(L B:List Int)(T:List Aa):(WR a bits L B T).2.2.length=B.length∧(WR a bits L B T).2.1.length≤T.length+128∧(F5 B→F5 (WR a bits L B T).2.2):=by
 unfold WR
 split
 ·rename_i h
  obtain⟨h1,h2⟩:=Rq h;obtain⟨h3,h4⟩:=Tk (s:=(bits / 8).toNat) L a.toNat B;have h5:L.length*(bits / 8).toNat≤16*8:=Nat.mul_le_mul (by omega) h1;refine⟨h4,?_,fun hB=>Ul L _ hB⟩;rw[List.length_append];omega
 ·exact⟨rfl,by simp,id⟩
theorem Jo{B:List Int}{a cur:Nat}{l:List Int}(h:a<cur):(Ee B cur l).getD a 0=B.getD a 0:=by
 induction l generalizing B cur with
 | nil=>rfl
 | cons b l ih=>
  rw[Ee,ih (by omega)];simp[List.getD,List.getElem?_set_ne (show cur≠a by omega)]
theorem Ta{B:List Int}{cur k:Nat}{l:List Int}(h:k<l.length)(hc:cur+l.length≤B.length):(Ee B cur l).getD (cur+k) 0=l.getD k 0:=by
 induction l generalizing B cur k with
 | nil=>simp at h
 | cons b l ih=>
  rw[Ee];simp only[List.length_cons]at h hc
  cases k with
  | zero=>
   rw[Nat.add_zero,Jo (by omega)];simp[List.getD,show cur<B.length by omega]
  | succ k=>
   rw[show cur+(k+1)=cur+1+k by omega,ih (by omega) (by simp;omega)]
   simp
theorem N3{B:List Int}{a cur:Nat}{l:List Int}(h:cur+l.length≤a):(Ee B cur l).getD a 0=B.getD a 0:=by
 induction l generalizing B cur with
 | nil=>rfl
 | cons b l ih=>
  simp only[List.length_cons]at h;rw[Ee,ih (by omega)];simp[List.getD,List.getElem?_set_ne (show cur≠a by omega)]
theorem Sn{s k:Nat}{v:Int}(h:k<s):(J3 s v).getD k 0=v / 256 ^ k % 256:=by
 induction s generalizing k v with
 | zero=>omega
 | succ s ih=>
  cases k with
  | zero=>simp[J3]
  | succ k=>
   rw[J3,List.getD_cons_succ,ih (by omega),Int.pow_succ,Int.mul_comm,Int.ediv_ediv_of_nonneg (by decide)]
theorem R8{v:Int}{k:Nat}(h0:0≤v)(hk:k<8):P5 (Ke .u64 v (8*(k:Int)))=v / 256 ^ k % 256:=by
 unfold Ke
 have e1:(256:Int) ^ k=((2 ^ (8*k):Nat):Int):=by rw[Nat.pow_mul];exact(Int.natCast_pow 256 k).symm
 have:(8*(k:Int)).toNat=8*k:=by omega
 rw[this,show min (8*k) IntKind.u64.bits=8*k by simp[IntKind.bits];omega,Mj,O5,e1,Int.natCast_pow]
 rfl
theorem Of{A:Nat}{v:Int}{b:List Int}:WR A 32 [v] b []=if A+4≤b.length then(0,M8 true A (J3 4 v),Ee b A (J3 4 v)) else(8,[],b):=by
 have hm:Hl 32 (([v]:List Int).length:Int)=true:=(by decide:Hl 32 1=true);unfold WR;rw[if_pos hm,show((32:Int) / 8).toNat=4 from rfl,B1,Ib]
 by_cases h:A+4≤b.length
 ·rw[if_pos h,if_pos h];simp[Ib]
 ·rw[if_neg h,if_neg h];rfl
theorem Ni{b:List Int}{p:Int×Int}{v:Int}{A:Nat}(hp:D4 p.1=(A:Int))(hA:A<65536)(v0:0≤v)(hb:b.length<4611686018427387904){x6:Int×List Aa×List Int}{x8 x10:List Int×List Aa×List Int}
  (h6:x6=WR A 32 [v] b []) (h8:x8.1=x6.2.2) (h10:x10.1=b):Cn (Av b p v x6 x8 x10) (0:Int)=some (.inl ()):=
 Rl _ (fun i:Nat=>(i:Int)) _ b.length (fun i hi=>by
  have hl:x6.2.2.length=b.length:=by rw[h6];exact(Oe _ _ _ _ _).1
  have key:(Option.bind (α:=Int) (bif (bif (bif (x6.1==0) then(decide ((D4 p.1)≤(i:Int))) else false) then(decide ((i:Int)<(D4 ((D4 p.1)+4)))) else false) then(Ds (0≤(C8 (D4 (8*(D4 ((i:Int)-(D4 p.1))))))) (some ((P5 (Ke .u64 v (C8 (D4 (8*(D4 ((i:Int)-(D4 p.1)))))))))))  else(some ((b.getD ((i:Int)).toNat 0)))) (fun x19=>some x19))=some (x6.2.2.getD i 0):=by
   rw[hp,B1,Eu (n:=(A:Int)+4) (by omega) (by omega)];rw[h6,Of]
   by_cases hc:A+4≤b.length
   ·rw[if_pos hc]
    dsimp only
    rw[show((0:Int)==0)=true by decide,cond_true]
    by_cases h1:A≤i
    ·rw[decide_eq_true (by omega),cond_true]
     by_cases h2:i<A+4
     ·rw[decide_eq_true (by omega),cond_true];obtain⟨k,rfl⟩:∃ k,i=A+k:=⟨i-A,by omega⟩;rw[Eu (n:=((A+k:Nat):Int)-A) (by omega) (by omega),Eu (by omega) (by omega),Cs (by omega) (by omega),Ao (by omega),show(8*(((A+k:Nat):Int)-A))=8*(k:Int) by omega,R8 v0 (by omega),Option.bind_some,Ta (by rw[Gw];omega) (by rw[Gw];exact hc),Sn (by omega)]
     ·rw[decide_eq_false (by omega),cond_false,Option.bind_some,N3 (by rw[Gw];omega)]
    ·rw[decide_eq_false (by omega),cond_false,cond_false,Option.bind_some,Jo (by omega)]
   ·rw[if_neg hc]
    dsimp only
    rw[show((8:Int)==0)=false by decide,cond_false,cond_false,cond_false,Option.bind_some]
  unfold Av;rw[Iy hi,cond_true,Ao (Sw hi)]
  generalize hz:(bif (bif (bif (x6.1==0) then(decide ((D4 p.1)≤(i:Int))) else false) then(decide ((i:Int)<(D4 ((D4 p.1)+4)))) else false) then(Ds (0≤(C8 (D4 (8*(D4 ((i:Int)-(D4 p.1))))))) (some ((P5 (Ke .u64 v (C8 (D4 (8*(D4 ((i:Int)-(D4 p.1)))))))))))  else(some ((b.getD ((i:Int)).toNat 0))))=z at key ⊢
  have hz':z=some (x6.2.2.getD i 0):=by cases z with|none=>cases key|some q=>exact key
  rw[hz',Option.bind_some,B1,h8,h10,Ao (Sw (by omega)),Ao (fun _=>Sw hi),Ao (fun _=>Sw hi)]
  rw[show(x6.2.2.getD i 0 !=x6.2.2.getD i 0)=false by simp,cond_false,show(b.getD i 0 !=b.getD i 0)=false by simp,cond_false,w1 (by omega)]) (by
  unfold Av
  rw[Me,cond_false])
theorem apart12(b:List Int)(p:Int×Int)(v:Int)(hb:F5 b)(h1:0≤p.1∧p.1<65536)(h2:0≤p.2∧p.2<65536)(hv:0≤v∧v<18446744073709551616):Bd b p v=some true:=by
 unfold Bd;rw[Pp,Option.bind_some,Bool.not_true,cond_false]
 by_cases h4:4096<b.length
 ·rw[Po h4,Option.bind_some]
  dsimp only
  rw[cond_false,Option.bind_some]
  dsimp only
  rw[cond_false,decide_eq_true (by omega)]
 ·rw[Mq (by omega),Option.bind_some]
  dsimp only
  rw[cond_true,Option.bind_some]
  dsimp only
  rw[cond_true,show((0:Int)!=0)=false by decide,cond_false,cond_false];obtain⟨A,hA⟩:∃ A:Nat,p.1=A:=⟨p.1.toNat,by omega⟩
  have hp:D4 p.1=(A:Int):=by rw[Eu (by omega) (by omega),hA]
  have hp':C8 p.1=(A:Int):=by rw[Cs (by omega) (by omega),hA]
  obtain⟨f1,f2,f3⟩:=Oe A 32 [v] b [];rw[List.length_nil]at f2;rw[hp',Ou (by omega) (by omega) (by rw[Io];simp),Option.bind_some,Ao f1.symm,Ot (by rw[Io];omega),Option.bind_some,Ao rfl,Rm (by rw[Io];omega),Option.bind_some,Ao rfl]
  dsimp only
  rw[f1,show(((b.length:Int))!=(b.length:Int))=false by simp,cond_false,Ro (by simp),Option.bind_some,Ao rfl]
  dsimp only
  rw[show(((([]:List Aa).length:Int))!=0)=false by decide,cond_false];rw[Ni (b:=b) (x6:=WR (A:Int) 32 [v] b []) hp (by omega) hv.1 (by omega) rfl rfl rfl,Option.bind_some]
  dsimp only
  rw[D0 (by omega) (by omega),Option.bind_some,Ao f1.symm]
  dsimp only
  have c:(((WR A 32 [v] b []).1==0)==Uk (WR A 32 [v] b []).2.2.length (A:Int) 4)=true:=by
   rw[f1,show(4:Int)=((4:Nat):Int) from rfl,Hc (by omega),Of]
   by_cases hc:A+4≤b.length
   ·rw[if_pos hc,decide_eq_true hc];rfl
   ·rw[if_neg hc,decide_eq_false hc];rfl
  rw[c,cond_true,Cs (n:=p.2) (by omega) (by omega),D0 (by omega) (by omega),Option.bind_some,Ao rfl]
  dsimp only
  rw[f1,Eu (n:=p.2) (by omega) (by omega)]
  have e:Uk b.length p.2 1=decide (p.2<(b.length:Int)):=by
   unfold Uk;rw[show decide ((1:Int)≤1)=true by decide,Bool.true_and];exact decide_eq_decide.2 (by omega)
  rw[e]
  simp
theorem wf_u64{n:Int}(h:(Lit.int .u64 n).wf=true):0≤n∧n<18446744073709551616:=by simp[Lit.wf,IntKind.min,IntKind.max,IntKind.bits,IntKind.signed]at h;omega
theorem wf_u8{n:Int}(h:(Lit.int .u8 n).wf=true):0≤n∧n<256:=by simp[Lit.wf,IntKind.min,IntKind.max,IntKind.bits,IntKind.signed]at h;omega
theorem wf_u16{n:Int}(h:(Lit.int .u16 n).wf=true):0≤n∧n<65536:=by simp[Lit.wf,IntKind.min,IntKind.max,IntKind.bits,IntKind.signed]at h;omega
theorem okWide_array{P:Program}{w:World}{r:Reach}{base:Nat}{t:TypeId}{v:Value}{n:Nat}{e:TypeId}(ht:P.underlying t=some (.array n e))(h:Value.okWide P w r base t v):∃ cs,v = .agg cs∧True:=by
 simp only[Value.okWide,ht]at h;obtain⟨cs,h1,_⟩:=h;exact⟨cs,h1,trivial⟩
abbrev Iall(w:World):Nat→Nat→Prop:=fun b o=>∃ u,w.cell? ⟨b,o,none⟩=some u
structure Lw(w:World)(cs:List Value)(avs:List AV):Prop where
 len:cs.length=avs.length
 one:∀ j,j<avs.length→(cs.getD j undef).oneCell'=true
 rep:∀ j,j<avs.length→RepV (Iall w) w (cs.getD j undef) (avs.getD j .any)
structure Ew(P:Program)(t:TypeId){α:Type}(e:α→List AV)(ok:α→Prop):Prop where
 get:∀{H:Type} {enc:TypeId×Value→H} {w:World} {base:Nat} {spare:Nat→Bool} {held:Bool} {fuel:Nat} {cs:List Value} {x:DataW H×List MemPlace},
  DataW.trod enc P w base spare held fuel t cs=some x→∃ a,ok a∧Lw w cs (e a)
theorem Iw{w:World}{v:Value}{x:AV}(h1:v.oneCell'=true)(h:RepV (Iall w) w v x):Lw w [v] [x]:=
 ⟨rfl,fun j hj=>(by
   have hj0:j=0:=by simpa using hj
   subst hj0
   exact h1),fun j hj=>(by
   have hj0:j=0:=by simpa using hj
   subst hj0
   exact h)⟩
theorem Hq{P:Program}{t:TypeId}{k:IntKind}{e:Int→List AV}(ht:P.underlying t=some (.int k))(he:∀ n,e n=[.int k n]):Ew P t e (fun n=>(Lit.int k n).wf=true):=by
 refine⟨?_⟩;intro H enc w base spare held fuel cs x h;obtain⟨n,rfl,rfl,hw⟩:=DataW.trod_int ht h;exact⟨n,hw,by rw[he];exact Iw rfl (.int _ _)⟩
theorem Nr{w:World}{base:Nat}{a:Addr}{n:Nat}{cs:List Value}(h:w.cells? base a n=some cs):cs.length=n∧∀ i,i<n→w.cell? (a.add i)=some (cs.getD i undef):=by
 unfold World.cells? at h
 split at h
 ·have hl:=mapM_some_length h;simp at hl;refine⟨hl,fun i hi=>?_⟩;have:=mapM_some_get h i i (by simp[hi]);rw[this];simp[List.getD,show i<cs.length by omega]
 ·cases h
theorem My{P:Program}{t el:TypeId}{α:Type}{e:α→List AV}{ok:α→Prop}{sz:Nat}{d:α}{e':List α→List AV}(ht:P.underlying t=some (.slice el))(hs:P.cellsOf el=sz)(h1:1≤sz)(he:Ew P el e ok)(hlen:∀ a,(e a).length=sz)
  (he':∀ l,e' l=[AV.list sz e d l .none]):Ew P t e' (fun l=>(∀ a∈l,ok a)∧l.length≤maxLen):=by
 refine⟨?_⟩;intro H enc w base spare held fuel cs x h;rcases DataW.trod_slice ht h with⟨rfl,rfl⟩|⟨a,len,cap,elems,rest,n,_,rfl,rfl,hb,hl,hm,hlen2,hel,_⟩
 ·exact⟨[],⟨by simp,by simp⟩,by rw[he'];exact Iw rfl (.slice none 0 0 sz _ (fun _=>undef) (Nat.le_refl _) (by simp) (fun h=>by simp at h) (fun _=>rfl) (fun j hj=>by simp at hj) (fun i hi=>by simp at hi) (fun i c hi=>by simp at hi))⟩
 ·have each:∀ i:Fin len,∃ b,ok b∧∃ cs,w.cells? base (a.add (i.1*sz)) sz=some cs∧Lw w cs (e b):=fun⟨i,hi⟩=>by
   have:=hel i hi;rw[hs,List.getElem?_eq_getElem (by omega),Option.bind_eq_some_iff]at this;obtain⟨cs,hcs,htr⟩:=this;obtain⟨b,hb,hr⟩:=he.get htr;exact⟨b,hb,cs,hcs,hr⟩
  let f:Fin len→α:=fun i=>(each i).choose
  have hf:∀ i,ok (f i)∧∃ cs,w.cells? base (a.add (i.1*sz)) sz=some cs∧Lw w cs (e (f i)):=fun i=>(each i).choose_spec
  have hlf:(List.ofFn f).length=len:=by simp
  refine⟨List.ofFn f,⟨fun b hb=>?_,by simp;omega⟩,?_⟩
  ·obtain⟨i,rfl⟩:=List.mem_ofFn.1 hb;exact(hf i).1
  rw[he'];refine Iw rfl ?_
  have hcell0:∀ i (hi:i<len),∀ c,c<sz→∃ u,w.cell? ((a.add (i*sz)).add c)=some u∧u.oneCell'=true∧RepV (Iall w) w u ((e (f ⟨i,hi⟩)).getD c .any):=fun i hi c hc=>by
   obtain⟨_,cs,hcs,hr⟩:=hf ⟨i,hi⟩;obtain⟨hl,hg⟩:=Nr hcs;exact⟨_,hg c hc,hr.one c (by rw[hlen];exact hc),hr.rep c (by rw[hlen];exact hc)⟩
  have hspot:0<len→a.spot=none:=fun hp=>by
   obtain⟨u,hu,_⟩:=hcell0 0 hp 0 h1;have h2:=World.cell?_spot hu
   simpa [Addr.add] using h2
  have hcell:∀ i (hi:i<len),∀ c,c<sz→∃ u,w.cell? ⟨a.block,a.off+(i*sz+c),none⟩=some u∧u.oneCell'=true∧RepV (Iall w) w u ((e (f ⟨i,hi⟩)).getD c .any):=fun i hi c hc=>by
   obtain⟨u,hu,h1,h2⟩:=hcell0 i hi c hc;have hsp:=hspot (by omega);rw[B9 hsp,Addr.add_lit]at hu;exact⟨u,by rw[← Nat.add_assoc];exact hu,h1,h2⟩
  have hdm:∀ j,j<len*sz→∃ i c,i<len∧c<sz∧j=i*sz+c:=fun j hj=>by
   refine⟨j / sz,j % sz,(Nat.div_lt_iff_lt_mul (by omega)).2 hj,Nat.mod_lt _ (by omega),?_⟩;rw[Nat.mul_comm];exact(Nat.div_add_mod j sz).symm
  unfold AV.list;rw[hlf];refine .slice (some a) len cap sz _ (fun j=>(w.cell? ⟨a.block,a.off+j,none⟩).getD undef) hl hm (fun hp=>⟨a,rfl,hspot hp,fun j hj=>?_,fun j hj=>?_⟩) (fun h=>by cases h) (fun j hj=>?_) (fun i hi=>hlen _) (fun i c hi hc=>?_)
  ·obtain⟨i,c,hi,hc,rfl⟩:=hdm j hj;obtain⟨u,hu,_⟩:=hcell i hi c hc;exact⟨u,hu⟩
  ·obtain⟨i,c,hi,hc,rfl⟩:=hdm j hj;obtain⟨u,hu,_⟩:=hcell i hi c hc;rw[hu];rfl
  ·obtain⟨i,c,hi,hc,rfl⟩:=hdm j hj;obtain⟨u,hu,h1,_⟩:=hcell i hi c hc;simp only[hu];exact h1
  ·obtain⟨u,hu,_,h2⟩:=hcell i hi c hc
   have e1:(List.ofFn f).getD i d=f ⟨i,hi⟩:=by simp[List.getD,hi]
   rw[e1,hu];exact h2
theorem Rc{w:World}{c d:Value}{l m:List AV}(h:Lw w [c] l)(k:Lw w [d] m):Lw w [c,d] (l++m):=by
 have h1:l.length=1:=h.len.symm;have k1:m.length=1:=k.len.symm;refine⟨by simp[h1,k1],fun j hj=>?_,fun j hj=>?_⟩
 ·have hj':j<2:=by simp[h1,k1]at hj;omega
  by_cases h0:j=0
  ·subst h0;exact h.one 0 (by omega)
  ·obtain rfl:j=1:=by omega
   exact k.one 0 (by omega)
 ·have hj':j<2:=by simp[h1,k1]at hj;omega
  by_cases h0:j=0
  ·subst h0;have:=h.rep 0 (by omega);rwa[List.getD_eq_getElem?_getD (l:=l++m),List.getElem?_append_left (by omega),← List.getD_eq_getElem?_getD]
  ·obtain rfl:j=1:=by omega
   have:=k.rep 0 (by omega);rw[List.getD_eq_getElem?_getD (l:=l++m),List.getElem?_append_right (by omega),h1,← List.getD_eq_getElem?_getD];exact this
theorem Lq{P:Program}{t el:TypeId}{α:Type}{e:α→List AV}{ok:α→Prop}{e':α×α→List AV}(ht:P.underlying t=some (.array 2 el))(htc:P.cellsOf t=2)(hs:P.cellsOf el=1)(he:Ew P el e ok)(he':∀ p,e' p=e p.1++e p.2) :
  Ew P t e' (fun p=>ok p.1∧ok p.2):=by
 refine⟨?_⟩;intro H enc w base spare held fuel cs x h;obtain⟨xs,n,_,_,hcl,hxl,hall⟩:=DataW.trod_array ht h;rw[htc]at hcl
 match cs,hcl,hall with
 | [c0,c1],_,hall=>
  have h0:=hall 0 (by omega);have h1:=hall 1 (by omega);rw[hs,List.getElem?_eq_getElem (by omega)]at h0 h1;obtain⟨a,ha,hra⟩:=he.get h0;obtain⟨b,hb,hrb⟩:=he.get h1;exact⟨(a,b),⟨ha,hb⟩,by rw[he'];exact Rc hra hrb⟩
structure Vv(P:Program)(fs:List Field)(off N:Nat){α:Type}(e:α→List AV)(ok:α→Prop):Prop where
 get:∀{H:Type} {enc:TypeId×Value→H} {w:World} {base:Nat} {spare:Nat→Bool} {held:Bool} {n:Nat} {cs:List Value},cs.length=N→
  (∀ f∈fs,∃ x,DataW.trod enc P w base spare held n f.type ((cs.drop f.offset).take (P.cellsOf f.type))=some x)→∃ a,ok a∧Lw w (cs.drop off) (e a)
theorem arg_one{P:Program}{t:TypeId}{α:Type}{e:α→List AV}{ok:α→Prop}(h:Ew P t e ok){x:α→AV}(he:∀ a,e a=[x a]){H:Type}{enc:TypeId×Value→H}{w:World}{base:Nat}{spare:Nat→Bool}{held:Bool}{v:Value}{d:DataW H}{ps:List MemPlace}
  (hv:v.cells = #[v]) (hd:DataW.Trod enc P w base spare held t v d ps):∃ a,ok a∧RepV (Iall w) w v (x a):=by
 obtain⟨fuel,hf⟩:=hd;obtain⟨a,ha,hr⟩:=h.get hf;refine⟨a,ha,?_⟩;have:=hr.rep 0 (by simp[he])
 simpa [hv,he] using this
theorem arg_agg{P:Program}{t:TypeId}{α:Type}{e:α→List AV}{ok:α→Prop}(h:Ew P t e ok){H:Type}{enc:TypeId×Value→H}{w:World}{base:Nat}{spare:Nat→Bool}{held:Bool}{cs:Array Value}{d:DataW H}{ps:List MemPlace}
  (hd:DataW.Trod enc P w base spare held t (.agg cs) d ps):∃ a,ok a∧RepV (Iall w) w (.agg cs) (.agg (e a)):=by
 obtain⟨fuel,hf⟩:=hd;obtain⟨a,ha,hr⟩:=h.get hf;have e1:(Value.agg cs).cells.toList=cs.toList:=rfl;rw[e1]at hr
 have e2:∀ j,cs.toList.getD j undef=cs.getD j undef:=fun j=>by simp[Array.getD_eq_getD_getElem?,List.getD]
 refine⟨a,ha,.agg _ _ (by simpa using hr.len) (fun j hj=>?_) (fun j hj=>?_)⟩
 ·rw[← e2];exact hr.one j hj
 ·rw[← e2];exact hr.rep j hj
def Vk(n:Int):Prop:=(Lit.int .u8 n).wf=true
theorem V9:Ew Try.prog 5 eU8 Vk:=Hq Try.underlying5 (fun _=>rfl)
def okLU8(l:List (Int)):Prop:=(∀ a∈l,Vk a)∧l.length≤maxLen
theorem op_22:Ew Try.prog 22 V1 okLU8:=My (d:=(0:Int)) Try.underlying22 (by kernel_rfl) (by decide) V9 (fun _=>rfl) (fun _=>rfl)
def okU64(n:Int):Prop:=(Lit.int .u64 n).wf=true
theorem op_33:Ew Try.prog 33 Ct okU64:=Hq Try.underlying33 (fun _=>rfl)
def Rv(n:Int):Prop:=(Lit.int .u16 n).wf=true
theorem Vm:Ew Try.prog 52 V2 Rv:=Hq Try.underlying52 (fun _=>rfl)
def okA2U16(p:(Int×Int)):Prop:=Rv p.1∧Rv p.2
theorem op_56:Ew Try.prog 56 eA2U16 okA2U16:=Lq Try.underlying56 (by kernel_rfl) (by kernel_rfl) Vm (fun _=>rfl)
end
end Go.Proofs.Ytbhekciniaeolaa
