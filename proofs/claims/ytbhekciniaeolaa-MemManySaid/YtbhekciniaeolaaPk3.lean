/-
  The machine, the program's functions and the laws' arithmetic: part 3 of 3.
-/
import Derived.Test.YtbhekciniaeolaaPk2
import Derived.OpenShut
import Derived.ShutString
import Derived.Test.YtbhekciniaeolaaProg
set_option linter.unusedVariables false
set_option linter.unusedSimpArgs false
namespace Go.Proofs.Ytbhekciniaeolaa
noncomputable section
open Go Go.RowKit
inductive R8 where
 | nx (y:Code)
 | bl (id:Nat)
 | ag (c:Code) (n:Nat)
inductive Dc where
 | run (c:Code) (fs:List R8)
 | out (e:Exit) (fs:List R8)
def Pi(P:Program)(Γ:Cx)(K:Exit→St→Prop):List R8→Exit→St→Prop
 | []=>K
 | .nx y::fs=>Ts P Γ y (Pi P Γ K fs)
 | .bl id::fs=>Gh id (Pi P Γ K fs)
 | .ag c n::fs=>fun e st=>(e = .normal∧Oa P Γ c (Pi P Γ K fs) n st)∨(e≠.normal∧Pi P Γ K fs e st)
def GG(P:Program)(Γ:Cx)(K:Exit→St→Prop):Dc→St→Prop
 | .run c fs,st=>E1 P Γ c (Pi P Γ K fs) st
 | .out e fs,st=>Pi P Γ K fs e st
def E4:Code→Nat→Nat
 | .exit i,k=>bif Nat.beq i k then 1 else 0
 | .seq a b,k=>Nat.min 2 (E4 a k+E4 b k)
 | .cond _ a b,k=>Nat.min 2 (E4 a k+E4 b k)
 | .loop c,k=>Nat.min 1 (E4 c k)
 | .scope c,k=>Nat.min 1 (E4 c k)
 | .block _ c,k=>E4 c k
 | _,_=>0
def Ds:Code→Nat
 | .region _ _ _=>1
 | .skip=>1
 | .label _=>1
 | .seq a b=>bif Nat.beq (Ds a) 0 then 0 else Ds b
 | .cond _ a b=>Nat.min 2 (Ds a+Ds b)
 | .block i c=>Nat.min 2 (Ds c+E4 c i)
 | .scope c=>Nat.min 2 (Ds c)
 | _=>0
def Rg(a:Code):Bool:=match a with | .region _ _ _=>false|a=>Nat.ble 2 (Ds a)
def Jd:Nat→Code ⊕ Exit→List R8→Dc
 | 0,.inl c,fs=>.run c fs
 | 0,.inr e,fs=>.out e fs
 | n+1,.inl c,fs=>
  match c with
  | .skip=>Jd n (.inr .normal) fs
  | .label _=>Jd n (.inr .normal) fs
  | .seq a b=>bif Rg a then .run (.seq a b) fs else Jd n (.inl a) (.nx b::fs)
  | .block id a=>Jd n (.inl a) (.bl id::fs)
  | .exit id=>Jd n (.inr (.exit id)) fs
  | .goto l=>Jd n (.inr (.goto l)) fs
  | .ret=>Jd n (.inr .ret) fs
  | c=>.run c fs
 | n+1,.inr e,fs=>
  match fs with
  | []=>.out e []
  | .nx y::fs=>(match e with | .normal=>Jd n (.inl y) fs|e=>Jd n (.inr e) fs)
  | .bl id::fs=>(match e with | .exit i=>bif Nat.beq i id then Jd n (.inr .normal) fs else Jd n (.inr (.exit i)) fs|e=>Jd n (.inr e) fs)
  | .ag c m::fs=>(match e with | .normal=>(match m with|0=>.out .normal (.ag c 0::fs)|m+1=>Jd n (.inl c) (.ag c m::fs))|e=>Jd n (.inr e) fs)
section
variable {P:Program} {Γ:Cx} {K:Exit→St→Prop}
theorem Ao:∀(n:Nat) (x:Code ⊕ Exit) (fs:List R8) (st:St),GG P Γ K (Jd n x fs) st→(match x with | .inl c=>E1 P Γ c (Pi P Γ K fs) st | .inr e=>Pi P Γ K fs e st)
 | 0,.inl c,fs,st,h=>h
 | 0,.inr e,fs,st,h=>h
 | n+1,.inl c,fs,st,h=>by
  cases c with
  | skip=>exact Qv (Ao n (.inr .normal) fs st h)
  | label l=>exact Pc (Ao n (.inr .normal) fs st h)
  | seq a b=>
   cases hj:Rg a with
   | true=>simp only[Jd,hj,cond_true]at h;exact h
   | false=>simp only[Jd,hj,cond_false]at h;exact Oe (Ao n (.inl a) (.nx b::fs) st h)
  | block id a=>exact Pb (Ao n (.inl a) (.bl id::fs) st h)
  | exit id=>exact Qo (Ao n (.inr (.exit id)) fs st h)
  | goto l=>exact Qp (Ao n (.inr (.goto l)) fs st h)
  | ret=>exact Sg (Ao n (.inr .ret) fs st h)
  | _=>exact h
 | n+1,.inr e,[],st,h=>h
 | n+1,.inr e,.nx y::fs,st,h=>by
  cases e with
  | normal=>exact Ao n (.inl y) fs st h
  | exit i=>exact Ao n (.inr (.exit i)) fs st h
  | goto l=>exact Ao n (.inr (.goto l)) fs st h
  | ret=>exact Ao n (.inr .ret) fs st h
  | panic c=>exact Ao n (.inr (.panic c)) fs st h
  | outgrown=>exact Ao n (.inr .outgrown) fs st h
 | n+1,.inr e,.bl id::fs,st,h=>by
  cases e with
  | normal=>exact Ao n (.inr .normal) fs st h
  | exit i=>
   show Gh id (Pi P Γ K fs) (.exit i) st
   cases hb:Nat.beq i id with
   | true=>
    obtain rfl:=Nat.eq_of_beq_eq_true hb;simp only[Jd,hb,cond_true]at h;exact Nk (Ao n (.inr .normal) fs st h)
   | false=>
    simp only[Jd,hb,cond_false]at h;exact Nj hb (Ao n (.inr (.exit i)) fs st h)
  | goto l=>exact Ao n (.inr (.goto l)) fs st h
  | ret=>exact Ao n (.inr .ret) fs st h
  | panic c=>exact Ao n (.inr (.panic c)) fs st h
  | outgrown=>exact Ao n (.inr .outgrown) fs st h
 | n+1,.inr e,.ag c m::fs,st,h=>by
  cases e with
  | normal=>
   cases m with
   | zero=>exact h
   | succ m=>exact .inl ⟨rfl,Ao n (.inl c) (.ag c m::fs) st h⟩
  | exit i=>exact .inr ⟨(by intro hh;cases hh),Ao n (.inr (.exit i)) fs st h⟩
  | goto l=>exact .inr ⟨(by intro hh;cases hh),Ao n (.inr (.goto l)) fs st h⟩
  | ret=>exact .inr ⟨(by intro hh;cases hh),Ao n (.inr .ret) fs st h⟩
  | panic ch=>exact .inr ⟨(by intro hh;cases hh),Ao n (.inr (.panic ch)) fs st h⟩
  | outgrown=>exact .inr ⟨(by intro hh;cases hh),Ao n (.inr .outgrown) fs st h⟩
theorem Ce{n:Nat}{c:Code}{fs:List R8}{st:St}(h:GG P Γ K (Jd n (.inl c) fs) st):E1 P Γ c (Pi P Γ K fs) st:=Ao n (.inl c) fs st h
theorem G5{n:Nat}{e:Exit}{fs:List R8}{st:St}(h:GG P Γ K (Jd n (.inr e) fs) st):Pi P Γ K fs e st:=Ao n (.inr e) fs st h
def Uq(c:Code)(fs:List R8):Dc:=Jd 400 (.inl c) fs
def V0(e:Exit)(fs:List R8):Dc:=Jd 400 (.inr e) fs
def Wi:Dc→Dc
 | .run _ fs=>V0 .normal fs
 | x=>x
def S0:Dc→Option (List Oper×Bool)
 | .run (.region _ ops draw) _=>some (ops.toList,draw)
 | _=>none
def U2(P:Program)(S:Gs)(n:Nat)(cs:List (Nat×AV))(live names:List Nat)(x:Dc)(st:St)(rs:List F8):Option (St×List Prop×Bool):=
 match S0 x with
 | some (ops,draw)=>Ih P S n cs live names ops draw st rs
 | none=>none
def V5(P:Program)(S:Gs)(n:Nat)(cs:List (Nat×AV))(live names:List Nat)(x:Dc)(st:St)(rs:List F8):St:=
 match U2 P S n cs live names x st rs with
 | some r=>r.1
 | none=>st
def Ur(r:Option (St×List Prop×Bool)):Option (Prop×Bool):=
 match r with
 | some r=>some (Me r.2.1,r.2.2)
 | none=>none
theorem gR{x:Dc}{st:St}{n:Nat}{H:List (Nat×Own)}(q:RgQ P Γ n H)(live names:List Nat)(cs:List (Nat×AV))(rs:List F8){O:Prop}(hO:O)
  (k:GG P Γ K (Wi x) (V5 P (Spec P) n cs live names x st rs))
  (h:Ur (U2 P (Spec P) n cs live names x st rs)=some (O,true):=by kernel_rfl) (hh:(H.all fun x=>Ci x.1 names)=true:=by kernel_rfl):GG P Γ K x st:=by
 unfold U2 at h;unfold V5 U2 at k
 cases x with
 | out e fs=>simp[S0,Ur]at h
 | run c fs=>
  cases c with
  | region id ops draw=>
   simp only[S0]at h k
   cases hr:Ih P (Spec P) n cs live names ops.toList draw st rs with
   | none=>rw[hr]at h;simp[Ur]at h
   | some r=>
    obtain⟨st',obs,d⟩:=r;rw[hr]at h k;simp only[Ur,Option.some.injEq,Prod.mk.injEq]at h;obtain⟨rfl,rfl⟩:=h;have:=Ni (id:=id) (K:=Pi P Γ K fs) q.hn q.mix (q.hand hh) hr hO (G5 k);exact(by simpa using this:E1 P Γ (.region id ops draw) (Pi P Γ K fs) st)
  | _=>simp[S0,Ur]at h
theorem Ch{x:Dc}{st:St}{n:Nat}{H:List (Nat×Own)}(q:RgQ P Γ n H)(live names:List Nat)
  (k:GG P Γ K (Wi x) (V5 P (Spec P) n [] live names x st []))
  (h:Ur (U2 P (Spec P) n [] live names x st [])=some (True,true):=by kernel_rfl) (hh:(H.all fun x=>Ci x.1 names)=true:=by kernel_rfl):GG P Γ K x st:=gR q live names [] [] trivial k h hh
def Tn:Dc→Bool | .run _ _=>true|_=>false
theorem Vm{x:Dc}{st st':St}(h:Le Γ st st')
  (k:GG P Γ K x st')
  (hx:Tn x=true:=by kernel_rfl):GG P Γ K x st:=by
 cases x with
 | run c fs=>exact Qr h k
 | out e fs=>cases hx
theorem T3{x:Dc}{st:St}(st':St)
  (k:GG P Γ K x st')
  (h:st=st':=by kernel_rfl):GG P Γ K x st:=h▸k
def Q1(x:Dc)(st:St):AV:=match x with | .run (.cond c _ _) _=>Mh st.get c|_=>.any
def U1(b:Bool):Dc→Dc
 | .run (.cond _ c d) fs=>Uq (bif b then c else d) fs
 | x=>x
theorem gC{x:Dc}{st:St}{R:Type}{b:Bool}{m1 m2:Option R}{r:R}(h:(bif b then m1 else m2)=some r)
  (kt:m1=some r→GG P Γ K (U1 true x) st) (kf:m2=some r→GG P Γ K (U1 false x) st)
  (hv:Q1 x st = .bool b:=by kernel_rfl):GG P Γ K x st:=by
 cases x with
 | out e fs=>cases hv
 | run c fs=>
  cases c with
  | cond c y z=>
   refine Mc b hv (fun hb=>Ce (n:=400) (kt ?_)) (fun hb=>Ce (n:=400) (kf ?_))
   ·subst hb;exact h
   ·subst hb;exact h
  | _=>cases hv
theorem Sk{x:Dc}{st:St}(b:Bool)
  (k:GG P Γ K (U1 b x) st)
  (hv:Q1 x st = .bool b:=by kernel_rfl):GG P Γ K x st:=by
 cases x with
 | out e fs=>cases hv
 | run c fs=>
  cases c with
  | cond c y z=>
   refine Mc b hv (fun hb=>Ce (n:=400) ?_) (fun hb=>Ce (n:=400) ?_)
   ·subst hb;exact k
   ·subst hb;exact k
  | _=>cases hv
theorem U5{x:Dc}{st:St}(pos:Bool)(n:Nat)
  (kt:(pos=true→n=0)→GG P Γ K (U1 true x) st) (kf:(pos=false→n=0)→GG P Γ K (U1 false x) st)
  (hv:Q1 x st = .nilq pos n:=by kernel_rfl):GG P Γ K x st:=by
 cases x with
 | out e fs=>cases hv
 | run c fs=>
  cases c with
  | cond c y z=>exact Qu pos n hv (fun hb=>Ce (n:=400) (kt hb)) (fun hb=>Ce (n:=400) (kf hb))
  | _=>cases hv
theorem gB{R:Type}{c:Bool}{m1 m2:Option R}{r:R}{G:Prop}(h:(bif c then m1 else m2)=some r)(kt:c=true→m1=some r→G)(kf:c=false→m2=some r→G):G:=by
 cases c with
 | true=>exact kt rfl h
 | false=>exact kf rfl h
theorem Tl(F:Bool→Prop){c b:Bool}(hs:c=b)(h:F c):F b:=hs▸h
theorem Cs{a b:Bool}(h:a=b):AVle (.bool a) (.bool b):=by rw[h];exact .refl _
theorem Db{p:Prop}(h:false=true):p:=Bool.noConfusion h
theorem Up{p:Prop}(h:true=false):p:=Bool.noConfusion h
theorem gK{x:Dc}{st:St}{e:Exit}(h:K e st)(hx:x = .out e []:=by kernel_rfl):GG P Γ K x st:=by subst hx;exact h
def aG(Γ:Cx)(e0:Exit)(og:St):Exit→St→Prop:=fun e st=>e=e0∧Le Γ st og
def aR(K:Exit→St→Prop):Exit→St→Prop:=fun e st=>e = .ret∧K e st
theorem P6{e0:Exit}{og st:St}(h:Le Γ st og):aG Γ e0 og e0 st:=⟨rfl,h⟩
theorem Tw{st:St}(h:K .ret st):aR K .ret st:=⟨rfl,h⟩
def Wm:Exit→Bool | .normal=>true|_=>false
theorem gN{S X:Type}{x:Dc}{st:St}{H:S→St}{KX:X→Exit→St→Prop}{s':S}(h:Le Γ st (H s'))(hx:x = .out .normal []:=by kernel_rfl):GG P Γ (Lx Γ H KX (.next s')) x st:=by
 subst hx;exact⟨rfl,h⟩
theorem gO{S X:Type}{x:Dc}{st:St}{H:S→St}{KX:X→Exit→St→Prop}{y:X}{e:Exit}(h:KX y e st)(hx:x = .out e []:=by kernel_rfl)(hn:Wm e=false:=by kernel_rfl):GG P Γ (Lx Γ H KX (.done y)) x st:=by
 subst hx;exact⟨(by rintro rfl;cases hn),h⟩
def fK(P:Program)(Γ:Cx)(rs:List ResultVar)(H:List (Nat×Own))(res:AV)(H':List (Nat×Own)):Exit→St→Prop:=Wg Γ (Vh P rs H res H')
theorem Pg{rs:List ResultVar}{H H':List (Nat×Own)}{res:AV}{st st':St}{e:Exit}(ρ:List (Nat×Nat))(hl:Le Γ st st')(hr:Ox P rs ρ H st'=some (res,H'):=by kernel_rfl)
  (he:(match e with | .ret=>true | .normal=>true|_=>false)=true:=by kernel_rfl):fK P Γ rs H res H' e st:=by
 refine⟨st',hl,?_,ρ,hr⟩
 cases e with
 | ret=>exact .inl rfl
 | normal=>exact .inr rfl
 | _=>cases he
theorem Hi{rs:List ResultVar}{H H':List (Nat×Own)}{res:AV}{x:Dc}{st:St}(ρ:List (Nat×Nat))(hr:Ox P rs ρ H st=some (res,H'):=by kernel_rfl)
  (hx:x = .out .ret []:=by kernel_rfl):GG P Γ (fK P Γ rs H res H') x st:=gK (e:=.ret) (Pg ρ (Le.refl _ _) hr) hx
def Nl(fn:Func):Code:=match fn.body with|some c=>c|none=>.skip
theorem Bg {f : FuncId} {fn : Func} {args : List AV} {H H' : List (Nat × Own)} {res : AV} (hm : P.follows .mixedOrders = true) (hf : P.funcs[f]? = some fn)
    (k : ∀ Γ : Cx, RgQ P Γ fn.ntmps H → GG P Γ (fK P Γ fn.results.toList H res H') (Uq (Nl fn) []) (I7 args H))
    (hb : fn.body.isSome = true := by kernel_rfl) (hname : (fn.name == "runtime.NumGoroutine") = false := by kernel_rfl) (hlen : Nat.ble args.length fn.ntmps = true := by kernel_rfl) (hpl : Lv H = true := by kernel_rfl) : Spec P f args H res H' := by
  obtain ⟨c, hc⟩ := Option.isSome_iff_exists.1 hb
  have e : Nl fn = c := by unfold Nl; rw [hc]
  refine M3 hf hc hname hlen (fun Γ hn hΓ => ?_) hpl; have := k Γ ⟨hn, hm, hΓ⟩; rw [e] at this; exact T0 (Ce this)
theorem T9{st st':St}(h:st=st'):Le Γ st st':=h▸Le.refl Γ st
def T7:Dc→Bool | .run (.loop _) _=>true|_=>false
def U0:Dc→Dc
 | .run (.loop c) _=>Uq c []
 | x=>x
def Vd(e:Exit):Dc→Dc
 | .run _ fs=>V0 e fs
 | x=>x
def Ve{α:Type}(k:Nat)(x:α):List (Nat×α)→List (Nat×α)
 | []=>[(k,x)]
 | (k',y)::l=>bif Nat.beq k k' then(k,x)::l else bif Nat.blt k k' then(k,x)::(k',y)::l else(k',y)::Ve k x l
def S3{α:Type}:List (Nat×α)→List (Nat×α)→List (Nat×α)
 | [],l=>l
 | (k,x)::r,l=>S3 r (Ve k x l)
def R7(st:St)(ts:List (Nat×AV))(os:List (Nat×Own))(fs:List (Nat×P9):=[]):St:=⟨S3 ts st.tmps,S3 os st.own,S3 fs st.fam⟩
def Wj(live names:List Nat)(st:St)(ts:List (Nat×AV))(os:List (Nat×Own))(fs:List (Nat×P9):=[]):St:=Br live names (R7 st ts os fs)
theorem gL{S X:Type}{x:Dc}{st:St}{n:Nat}{Hf:List (Nat×Own)}(q:RgQ P Γ n Hf){f:S→Option (LR S X)}{s0:S}{y:X}(hx:Cl f s0=some y)(live names:List Nat)(H:St→S→St)(KX:St→X→Exit→St→Prop)
  (kb:∀ s y,f s=some y→GG P Γ (Lx Γ (H (Br live names st)) (KX (Br live names st)) y) (U0 x) (H (Br live names st) s)) (ko:∀ e st',KX (Br live names st) y e st'→GG P Γ K (Vd e x) st')
  (h0:Br live names st=H (Br live names st) s0:=by kernel_rfl) (hl:T7 x=true:=by kernel_rfl) (hh:(Hf.all fun x=>Ci x.1 names)=true:=by kernel_rfl):GG P Γ K x st:=by
 cases x with
 | out e fs=>cases hl
 | run c fs=>
  cases c with
  | loop c=>
   refine Qr (st':=H (Br live names st) s0) ?_ (Qs (H (Br live names st)) f (KX (Br live names st)) (fun s y hy=>Ce (kb s y hy)) hx fun e st' hk=>G5 (ko e st' hk));rw[← h0];exact J3 live names q rfl hh
  | _=>cases hl
theorem gA{x:Dc}{f:Exit→Dc→Dc}{e0:Exit}{og:St}
  (k:GG P Γ K (f e0 x) og)
  (hr:Tn (f e0 x)=true:=by kernel_rfl):∀ e st',aG Γ e0 og e st'→GG P Γ K (f e x) st':=by
 rintro e st' ⟨rfl,hl⟩;exact Vm hl k hr
theorem V1{x:Dc}{f:Exit→Dc→Dc}{e0:Exit}{og:St}(k:∀ st',Le Γ st' og→GG P Γ K (f e0 x) st'):∀ e st',aG Γ e0 og e st'→GG P Γ K (f e x) st':=by
 rintro e st' ⟨rfl,hl⟩;exact k st' hl
theorem V2{x:Dc}{f:Exit→Dc→Dc}{K':Exit→St→Prop}(k:∀ st',K' .ret st'→GG P Γ K (f .ret x) st'):∀ e st',aR K' e st'→GG P Γ K (f e x) st':=by
 rintro e st' ⟨rfl,hl⟩;exact k st' hl
def U7:Dc→Bool | .run (.seq _ _) _=>true|_=>false
def U6:Dc→Dc
 | .run (.seq a _) _=>Uq a []
 | x=>x
def Vg(e:Exit):Dc→Dc
 | .run (.seq _ b) fs=>V0 e (.nx b::fs)
 | x=>x
theorem gJ{X:Type}{x:Dc}{st:St}{m:Option X}{y:X}(hx:m=some y)(KX:X→Exit→St→Prop)
  (kb:∀ y,m=some y→GG P Γ (KX y) (U6 x) st) (ko:∀ e st',KX y e st'→GG P Γ K (Vg e x) st')
  (hs:U7 x=true:=by kernel_rfl):GG P Γ K x st:=by
 cases x with
 | out e fs=>cases hs
 | run c fs=>
  cases c with
  | seq a b=>exact Oe (Qq KX hx (fun y hy=>Ce (kb y hy)) fun e st' hk=>G5 (ko e st' hk))
  | _=>cases hs
def Sp:Dc→Bool | .run (.scope _) _=>true|_=>false
def Vi:Dc→Code | .run (.scope c) _=>c|_=>.skip
def U8(c:Code)(l:Nat):Dc:=Uq ((findLabel c l).getD .skip) []
theorem gS{S X:Type}{x:Dc}{st:St}{f0:Option (LR S X)}{f:S→Option (LR S X)}{y:X}(hx:Eb f0 f=some y)(lab:S→Nat)(H:S→St)(KX:X→Exit→St→Prop)
  (k0:∀ y,f0=some y→GG P Γ (I9 Γ (Vi x) lab H KX y) (Uq (Vi x) []) st) (kb:∀ s y,f s=some y→GG P Γ (I9 Γ (Vi x) lab H KX y) (U8 (Vi x) (lab s)) (H s)) (ko:∀ e st',KX y e st'→GG P Γ K (Vd e x) st')
  (hs:Sp x=true:=by kernel_rfl):GG P Γ K x st:=by
 cases x with
 | out e fs=>cases hs
 | run c fs=>
  cases c with
  | scope c=>
   refine Pd lab H f0 f KX (fun y hy=>Ce (k0 y hy)) (fun s y rest hf hy=>?_) hx fun e st' hk=>G5 (ko e st' hk);have:=kb s y hy;unfold U8 Vi at this;rw[hf]at this;exact Ce this
  | _=>cases hs
theorem Wh{S X:Type}{x:Dc}{st:St}{c:Code}{lab:S→Nat}{H:S→St}{KX:X→Exit→St→Prop}{s':S}(h:Le Γ st (H s'))(hx:x = .out (.goto (lab s')) []:=by kernel_rfl)(hf:(findLabel c (lab s')).isSome=true:=by kernel_rfl) :
  GG P Γ (I9 Γ c lab H KX (.next s')) x st:=by
 subst hx;exact⟨rfl,hf,h⟩
theorem Uo{S X:Type}{x:Dc}{st:St}{c:Code}{lab:S→Nat}{H:S→St}{KX:X→Exit→St→Prop}{y:X}{e:Exit}(h:KX y e st)(hx:x = .out e []:=by kernel_rfl)
  (hf:(match e with | .goto l=>(findLabel c l).isNone|_=>true)=true:=by kernel_rfl):GG P Γ (I9 Γ c lab H KX (.done y)) x st:=by
 subst hx;refine⟨?_,h⟩;rintro l rfl
 simpa using hf
theorem V4{α:Type}{st:St}(U:α→St→St){a b:α}(h:a=b)(h1:st=U a st:=by kernel_rfl):Le Γ st (U b st):=by subst h;exact T9 h1
def Own.withF(g:Nat→List AV):Own→Own
 | .arr sz e n _=>.arr sz e n g
 | o=>o
def Tk(st:St)(nm:Nat):Option (Nat×(Nat→List AV)):=match Ab st.own nm with|some (.arr _ _ n f)=>some (n,f)|_=>none
def Vj(nm:Nat)(g:Nat→List AV)(st:St):St:=⟨st.tmps,(match Ab st.own nm with|some o=>Cn st.own nm (o.withF g)|none=>st.own),st.fam⟩
theorem Jk{nm sz n:Nat}{e:TypeId}{f g:Nat→List AV}(hp:∀ k,k<n→AVleL (f k) (g k)):∀{l:List (Nat×Own)},Ab l nm=some (.arr sz e n f)→OwnsLe l (Cn l nm (.arr sz e n g))
 | [],h=>by cases h
 | (k,o)::l,h=>by
  simp only[Ab]at h;simp only[Cn]
  cases hb:Nat.beq k nm with
  | true=>
   obtain rfl:=Nat.eq_of_beq_eq_true hb;rw[hb]at h;simp only[cond_true,Option.some.injEq]at h;subst h;exact .arr hp (.refl _)
  | false=>
   rw[hb]at h;exact .same (Jk hp h)
theorem V3{st:St}(nm:Nat){n:Nat}{f g:Nat→List AV}(hp:∀ k,k<n→AVleL (f k) (g k))(h:Tk st nm=some (n,f):=by kernel_rfl):Le Γ st (Vj nm g st):=by
 unfold Tk at h;unfold Vj
 cases ho:Ab st.own nm with
 | none=>rw[ho]at h;cases h
 | some o=>
  rw[ho]at h
  cases o with
  | arr sz e n' f'=>
   simp only[Option.some.injEq,Prod.mk.injEq]at h;obtain⟨rfl,rfl⟩:=h;exact U9 (TmpsLe.refl _) (Jk hp ho)
  | _=>cases h
theorem gI(g:Bool):g=true→g=true:=id
theorem G0(c:Bool):c=true→(c==true)=true:=gT
theorem T4(c:Bool):c=false→(c==false)=true:=gF
theorem Gu{α:Type}(sz:Nat)(e:α→List AV)(d:α)(l:List α):AVle (.slice sz l.length (fun i=>(l.map e).getD i []) .exact) (AV.list sz e d l .exact):=Nh rfl fun i h=>Su l i h
theorem Di{α:Type}(sz:Nat)(e:α→List AV)(d:α):AVle (.slice 0 0 (fun _=>[]) .exact) (AV.list sz e d [] .exact):=Qn
theorem Ld{α:Type}(sz nm:Nat)(e:α→List AV)(d:α)(l m:List α):AVle (.slice sz (l.length+m.length) (Cy l.length (fun i=>e (l.getD i d)) (fun i=>e (m.getD i d))) (.own nm)) (AV.list sz e d (l++m) (.own nm)):=Ty
theorem Sr{st st':St}(h:st=st':=by kernel_rfl):Le Γ st st':=h▸Le.refl Γ st
theorem ci{p q:Prop}(a:p)(b:q):p∧q:=⟨a,b⟩
theorem c1{p:Prop}(a:p):p∧True:=⟨a,trivial⟩
end
set_option maxRecDepth 100000
set_option maxHeartbeats 2000000
def eU64(x:Int):List AV:=[(.int .u64 x)]
def U4(x:List Int):List AV:=[(AV.list 1 eU64 0 x .none)]
structure Wn where
 Write:Bool
 At:Int
 Bits:Int
 N:Int
 List:List Int
 deriving Inhabited,DecidableEq
def eU8(x:Int):List AV:=[(.int .u8 x)]
def Vz(x:List Int):List AV:=[(AV.list 1 eU8 0 x .none)]
structure Aa where
 Write:Bool
 At:Int
 Byte:Int
 deriving Inhabited,DecidableEq
def Ag(x:Aa):List AV:=[(.bool x.Write),(.int .u64 x.At),(.int .u8 x.Byte)]
structure Hs where
 bytes:List Int
 trace:List Aa
 deriving Inhabited,DecidableEq
theorem mix:Try.prog.follows .mixedOrders=true:=by kernel_rfl
def Q3:AV:=(AV.list 1 eU8 0 ([]:List Int) .exact)
def Q4:=(⟨[(2,(.vsl 36002 ([]:List Int).length))],[(36002,.arr 1 5 (([]:List Int).length) (fun i=>eU8 (([]:List Int).getD i 0)))],[]⟩:St)
def Z1:=fun(za:List Int) zb zc=>([(30000,.row 63 [(.vsl 35000 za.length),(AV.list 3 Ag default zb (.own 37001))]),(37001,.tok 3 49 zc),(35000,.arr 1 5 za.length (fun i=>eU8 (za.getD i 0)))]:List (Nat×Own))
def Z2:=fun za zb (zc:List Int) zd zf zg=>([(za,.row 63 [(.vsl zb zc.length),(AV.list 3 Ag default zd (.own zf))]),(zb,.arr 1 5 zc.length (fun i=>eU8 (zc.getD i 0))),(zf,.tok 3 49 zg)]:List (Nat×Own))
def Z3:=fun(za:List Int) zb zc zd=>([(30000,.row 63 [(.vsl 35000 za.length),(AV.list 3 Ag default zb (.own 37001))]),(37001,.tok 3 49 zc),(35000,.arr 1 5 za.length (fun i=>eU8 (za.getD i 0))),(20000,.tok 3 49 zd)]:List (Nat×Own))
def Z4:=fun za zb=>((30000,.row 63 [(.vsl 35000 za),(AV.list 3 Ag default zb (.own 37001))]):Nat×Own)
def Z5:=fun za zb zc zd zf zg=>(⟨[(za,30000),(zb,37001),(zc,35000)],[(20000,zd)],(AV.list 1 eU8 0 zf (.own 20000)),zg,[]⟩:F8)
def Z6:=fun za (zb:List Int)=>((za,.arr 1 5 zb.length (fun i=>eU8 (zb.getD i 0))):Nat×Own)
def Z7:=fun za=>((AV.list 3 Ag default za (.own 20000)):AV)
def Z8:=(⟨[],[],(.bool false),[],[]⟩:F8)
def Z9:=fun za zb zc zd zf zg=>(⟨[],[(20000,za),(21000,zb),(21001,zc)],(.tuple [zd,(.int .i64 zf)]),(bif true then zg else[]),[]⟩:F8)
def Vs:=fun za zb zc zd zf zg zm zn zp zq zt=>(⟨[(za,30000),(zb,37001),(zc,35000)],[(20000,zd)],(.tuple [(AV.list 1 eU64 0 zf (.own 20000)),(.int .i64 zg)]),[(Z4 zm zn),(37001,.tok 3 49 zp),(Z6 35000 zq),(20000,.tok 1 33 zt)],[]⟩:F8)
def Vt:=fun za zb=>(⟨[(11,30000),(60011001,37001),(60011000,35000)],[(20000,75)],za,zb,[]⟩:F8)
def We:=fun(za:List Int) (zb:List Int)=>((.bool (!(((D8 za.length (fun i=>eU8 (za.getD i 0))):List Int)==(D8 zb.length (fun i=>eU8 (zb.getD i 0)))))):AV)
def Wf:=fun za zb=>([(29,(AV.list 3 Ag default za .exact)),(30,(AV.list 3 Ag default (zb++za) (.own 37001)))]:List (Nat×AV))
def Vu:=fun za zb zc=>(⟨[],[],(.tuple [za,(.int .i64 zb)]),(bif false then zc else[]),[]⟩:F8)
def Vv:=((AV.list 3 Ag default ([]:List Aa) .exact):AV)
def Fo:=fun za=>((.int .i64 za):AV)
def Vw:=fun za zb=>(⟨[(11,30000),(60011001,37001),(60011000,35000)],[],(.bool za),zb,[]⟩:F8)
def Vx:=((AV.list 3 Ag default ([]:List Aa) .none):AV)
def Ti:=((.int .u64 (3:Int)):AV)
def Uz:=fun za=>((AV.list 1 eU8 0 za (.own 20000)):AV)

def Au(a7:List Int):Option (List Int):=
 (D1 (a7.length≤room) (some a7))
theorem B5(a7:List Int)(r:List Int)(h:Au a7=some r):Spec Try.prog 24 [(AV.list 1 eU8 0 a7 .none)] [] (.vsl 20000 r.length) [(20000,.arr 1 5 r.length (fun i=>eU8 (r.getD i 0)))]:=by
 refine Bg mix Try.func24 (fun Γ hq=>?_);unfold Au at h;refine gR hq [0] [] [(2,Q3)] [] (c1 (Di 1 eU8 (0:Int))) ?_;refine Ch hq [0,4] [] ?_;refine U5 true a7.length (fun hb=>?_) (fun hb=>?_)
 ·replace h:=Rm (some ([]:List Int)) (fun(l2:List Int)=>(D1 (l2.length≤room) (some l2))) h (hb rfl) rfl (fun h0=>by first|exact h0|simpa [D1,room] using h0);clear hb;refine gR hq [2] [] [(2,Q3)] [] (c1 (Di 1 eU8 (0:Int))) ?_;refine T3 (⟨[(2,Q3)],[],[]⟩:St) ?_;cases h;exact gK (e:=.ret) (Pg [(36002,20000)] (show Le Γ _ Q4 from Le.trans (J3 (st':=⟨[(2,Q3)],[],[]⟩) [2] [] hq) (Le.trans (T8 (t:=2) (nm:=36002) (sz':=1) (fun i=>eU8 (([]:List Int).getD i 0)) 5 rfl rfl) (J3 (st':=Q4) [2] [36002] hq))))
 ·clear hb;obtain⟨hc1,h⟩:=Ai h;refine gR hq [2] [7] [(5,Q3),(7,.vsl 7 0)] [] (ci (show(AVle (.slice 1 0 (fun i=>([]:List (List AV)).getD i []) .exact) Q3) from Nh rfl (fun i hi=>absurd hi (Nat.not_lt_zero i))) (c1 hc1)) ?_;obtain rfl:=OI h;exact Hi [(7,20000)]
def Q6(x1:List Int):List AV:=[(.vsl 8 x1.length),Vv]
def Q7(x1:List Int):=(⟨[(2,(.ptr 10 0)),(3,(.int .i64 (0:Int)))],[(8,.arr 1 5 x1.length (fun i=>eU8 (x1.getD i 0))),(10,.row 63 (Q6 x1))],[]⟩:St)
def Q5(x1:List Int):=(⟨[(2,(.ptr 10 0)),(3,(.int .i64 (0:Int)))],[(8,.arr 1 5 x1.length (fun i=>eU8 (x1.getD i 0))),(10,.row 63 [(.vsl 8 x1.length),(AV.list 3 Ag default ([]:List Aa) (.own 6102001))]),(6102001,.tok 3 49 (([]:List Aa).length))],[]⟩:St)
def Cr(a2:List Int):Option ((Bool×Hs)×Int):=
 (bif (decide (((4096:Int):Int)<(a2.length:Int))) then(some ((false,(default:Hs)),(4:Int))) else((Au a2).bind fun x1=>(some ((true,(⟨x1,([]:List Aa)⟩:Hs)),(0:Int)))))
theorem Cf(a2:List Int)(r:((Bool×Hs)×Int))(h:Cr a2=some r):Spec Try.prog 10 [(AV.list 1 eU8 0 a2 .none)] [] (.tuple [(bif r.1.1 then((.ptr 20000 0):AV) else .nilp),(.int .i64 r.2)]) (bif r.1.1 then[(20000,.row 63 [(.vsl 21000 r.1.2.bytes.length),(AV.list 3 Ag default r.1.2.trace (.own 21001))]),(21000,.arr 1 5 r.1.2.bytes.length (fun i=>eU8 (r.1.2.bytes.getD i 0))),(21001,.tok 3 49 r.1.2.trace.length)] else[]):=by
 refine Bg mix Try.func10 (fun Γ hq=>?_);unfold Cr at h;refine Ch hq [0] [] ?_;refine Ch hq [0,6] [] ?_;refine gC h (fun h=>?_) (fun h=>?_)
 ·refine Ch hq [2,3] [] ?_;cases h;exact Hi []
 ·obtain⟨x1,hx1,h⟩:=bind_some h;refine gR hq [2,3] [8,10] [(9,(.agg (Q6 x1)))] [⟨[],[(20000,8)],(.vsl 20000 x1.length),[(Z6 20000 x1)],[]⟩] (ci (B5 a2 x1 hx1) (c1 (show(AVle (.agg [(.vsl 8 x1.length),(.slice 0 0 (fun _=>[]) .exact)]) (.agg (Q6 x1))) from(AVle.agg (.cons (AVle.refl _) (.cons Qn .nil)))))) ?_;refine T3 (Q7 x1) ?_;cases h;exact gK (e:=.ret) (Pg [(10,20000),(8,21000),(6102001,21001)] (show Le Γ _ (Q5 x1) from Le.trans (J3 (st':=(Q7 x1)) [2,3] [8,10] hq) (Le.trans (Ml (r:=10) (j:=1) (nm:=6102001) (sz':=3) (fun i=>Ag (([]:List Aa).getD i default)) 49 rfl rfl (nl rfl) rfl (.inl ⟨rfl,rfl⟩) (fun h_=>absurd h_ (by decide))) (J3 (st':=(Q5 x1)) [2,3] [8,10,6102001] hq))))
def B9(a4:Int):Option Int:=
 (Option.bind (α:=Bool) (bif (a4==8) then(some (a4==8)) else(bif (a4==16) then(some (a4==16)) else(bif (a4==32) then(some (a4==32)) else(some (a4==64))))) (fun x2=>(bif x2 then(some (Iq (Int.tdiv a4 (8:Int)))) else(some (0:Int)))))
theorem Fc(a4:Int)(r:Int)(h:B9 a4=some r):Spec Try.prog 25 [(.int .i64 a4)] [] (.int .i64 r) []:=by
 refine Bg mix Try.func25 (fun Γ hq=>?_);unfold B9 at h;refine Ch hq [0] [] ?_;refine Ch hq [0,3] [] ?_;obtain⟨x2,hx2,h⟩:=bind_some h;refine gJ hx2 (fun b1=>aG Γ .normal (⟨[(0,(Fo a4)),(4,(.bool b1))],[],[]⟩:St)) ?_ ?_
 ·clear h hx2;intro y h;refine Ch hq [0,3,4] [] ?_;refine gC h (fun h=>?_) (fun h=>?_)
  ·cases h;exact gK (P6 (J3 [0,4] [] hq))
  ·refine Ch hq [0,3,4] [] ?_;refine gC h (fun h=>?_) (fun h=>?_)
   ·cases h;exact gK (P6 (J3 [0,4] [] hq))
   ·refine Ch hq [0,3,4] [] ?_;refine gC h (fun h=>?_) (fun h=>?_)
    ·cases h;exact gK (P6 (J3 [0,4] [] hq))
    ·refine Ch hq [0,4] [] ?_;cases h;exact gK (P6 Sr)
 ·clear hx2;refine gA ?_;refine gC h (fun h=>?_) (fun h=>?_)
  ·refine gR hq [2] [] [] [] (c1 (show((8:Int)≠0) from(by decide))) ?_;cases h;exact Hi []
  ·refine Ch hq [2] [] ?_;cases h;exact Hi []
def Q8(a3:Int):=((bif false then true else(decide (a3<1)))==false)
def A9(a5:Int)(a3:Int)(a0:List Int)(a1:List Aa):Option (Bool×List Aa×List Int):=
 (bif (bif (bif false then true else(decide (a3<1))) then true else(decide (((a0.length:Int):Int)<a3))) then(some (false,a1,a0)) else(some ((decide (a5≤(Dm (Iq ((a0.length:Int)-a3))))),a1,a0)))
theorem B0(a5:Int)(a3:Int)(a0:List Int)(a1:List Aa)(r:(Bool×List Aa×List Int))(h:A9 a5 a3 a0 a1=some r):Spec Try.prog 16 [(.ptr 30000 0),(.int .u64 a5),(.int .i64 a3)] [(30000,.row 63 [(.vsl 35000 a0.length),(AV.list 3 Ag default a1 (.own 37001))]),(37001,.tok 3 49 a1.length),(35000,.arr 1 5 a0.length (fun i=>eU8 (a0.getD i 0)))] (.bool r.1) [(30000,.row 63 [(.vsl 35000 r.2.2.length),(AV.list 3 Ag default r.2.1 (.own 37001))]),(37001,.tok 3 49 r.2.1.length),(35000,.arr 1 5 r.2.2.length (fun i=>eU8 (r.2.2.getD i 0)))]:=by
 refine Bg mix Try.func16 (fun Γ hq=>?_);unfold A9 at h;refine Ch hq [0,1,2] [30000,35000,37001] ?_;refine gR hq [0,1,2,21] [30000,35000,37001] [] [] (ci (gI (false==false)) (ci (T4 false) (ci (gI (Q8 a3)) (ci (gI (Q8 a3)) (ci (gI (Q8 a3)) (ci (gI (Q8 a3)) (ci (gI (Q8 a3)) (ci (gI (Q8 a3)) (c1 (T4 (bif false then true else(decide (a3<1))))))))))))) ?_;refine gC h (fun h=>?_) (fun h=>?_)
 ·refine Ch hq [6] [30000,35000,37001] ?_;cases h;exact Hi [(30000,30000),(37001,37001),(35000,35000)]
 ·refine Ch hq [6] [30000,35000,37001] ?_;cases h;exact Hi [(30000,30000),(37001,37001),(35000,35000)]
def A2(a8:Int):(Int×Int×Int×List Aa×List Int)→Option (LR (Int×Int×Int×List Aa×List Int) (List Aa×List Int)):=
 fun((i1,i2,i3,l4,l5):(Int×Int×Int×List Aa×List Int))=>(bif (decide (i3<a8)) then(D1 (Gg i1 l5.length) (D1 (l4.length+([(⟨true,i1,(Tc i2)⟩:Aa)]:List Aa).length≤room) (some (.next ((Dm (i1+1)),(R0 .u64 i2 (8:Int)),(Iq (i3+1)),(l4++([(⟨true,i1,(Tc i2)⟩:Aa)]:List Aa)),(l5.set i1.toNat (Tc i2))))))) else(some (.done (l4,l5))))
def Q9(i1:Int)(i2:Int):=([(⟨true,i1,(Tc i2)⟩:Aa)]:List Aa)
def Bq(a5:Int)(a8:Int)(aC:Int)(a0:List Int)(a1:List Aa):Option (List Aa×List Int):=
 ((Cl (A2 a8) (a5,aC,(0:Int),a1,a0)).bind (fun(l6,l7)=>(some (l6,l7))))
theorem F5(a5:Int)(a8:Int)(aC:Int)(a0:List Int)(a1:List Aa)(r:(List Aa×List Int))(h:Bq a5 a8 aC a0 a1=some r):Spec Try.prog 26 [(.ptr 30000 0),(.int .u64 a5),(.int .i64 a8),(.int .u64 aC)] [(30000,.row 63 [(.vsl 35000 a0.length),(AV.list 3 Ag default a1 (.own 37001))]),(37001,.tok 3 49 a1.length),(35000,.arr 1 5 a0.length (fun i=>eU8 (a0.getD i 0)))] (.tuple []) [(30000,.row 63 [(.vsl 35000 r.2.length),(AV.list 3 Ag default r.1 (.own 37001))]),(37001,.tok 3 49 r.1.length),(35000,.arr 1 5 r.2.length (fun i=>eU8 (r.2.getD i 0)))]:=by
 refine Bg mix Try.func26 (fun Γ hq=>?_);unfold Bq at h;refine Ch hq [0,1,3,9,10] [30000,35000,37001] ?_;obtain⟨x10,hx10,h⟩:=bind_some h;refine gL hq hx10 [0,1,3,9,10] [30000,35000,37001] (fun u (i1,i2,i3,l4,l5)=>(R7 u [(1,(.int .u64 i1)),(3,(.int .u64 i2)),(10,(Fo i3))] (Z2 30000 35000 l5 l4 37001 l4.length))) (fun u (l6,l7)=>aG Γ (.exit 0) (⟨[],(Z2 30000 35000 l7 l6 37001 l6.length),[]⟩:St)) ?_ ?_
 ·rintro⟨i1,i2,i3,l4,l5⟩ y h;unfold A2 at h;refine Ch hq [0,1,3,9,10,11] [30000,35000,37001] ?_;refine gC h (fun h=>?_) (fun h=>?_)
  ·refine Ch hq [0,1,3,8,9,10] [30000,35000,37001] ?_;obtain⟨hc8,h⟩:=Ai h;refine gR hq [0,1,3,8,9,10] [30000,35000,37001] [] [] (ci hc8 (c1 (Eq.refl l5.length))) ?_;refine Vm (Le.trans (V3 35000 (show ∀ k_,k_<l5.length→AVleL ((fun i_=>AV.eraseAll (fun n_=>Ci n_ [30000,35000,37001]) ((Jo (fun i=>eU8 (l5.getD i 0)) i1.toNat 0 [(.int .u8 (Tc i2))]) i_)) k_) ((fun i=>eU8 ((l5.set i1.toNat (Tc i2)).getD i 0)) k_) from(Ks (List.length_set ..).symm (fun k_ hk_=>(congrArg (AV.eraseAll (fun n_=>Ci n_ [30000,35000,37001])) ((Mz (fun _ _=>rfl) (Ok hc8) rfl) k_ hk_)).trans rfl)))) (V4 (fun(k_:Nat) u=>(R7 u [] [(Z4 k_ l4),(35000,.arr 1 5 k_ (fun i=>eU8 ((l5.set i1.toNat (Tc i2)).getD i 0)))])) (show l5.length=(l5.set i1.toNat (Tc i2)).length from(List.length_set ..).symm))) ?_;obtain⟨hc9,h⟩:=Ai h;refine gR hq [0,1,3,9,10] [30000,35000,37001] (Wf (Q9 i1 i2) l4) [] (ci (Gu 3 Ag (default:Aa) (Q9 i1 i2)) (ci (Eq.refl l4.length) (ci hc9 (ci (Ld 3 37001 Ag (default:Aa) l4 (Q9 i1 i2)) (c1 (Ll l4 (Q9 i1 i2))))))) ?_;refine gR hq [0,1,3,9,10] [30000,35000,37001] [] [] (c1 (show(0≤(8:Int)) from(by decide))) ?_;refine Ch hq [0,1,3,9,10] [30000,35000,37001] ?_;refine Ch hq [0,1,3,9,10] [30000,35000,37001] ?_;cases h;exact gN Sr
  ·cases h;exact gO (P6 (J3 [] [30000,35000,37001] hq))
 ·clear hx10;rcases x10 with⟨l6,l7⟩;refine V1 (fun st' hl11=>?_);cases h;exact gK (e:=.normal) (Pg [(30000,30000),(37001,37001),(35000,35000)] hl11)
def A5(aA:List Int)(x3:Int):(Int×Int×List Aa×List Int)→Option (LR (Int×Int×List Aa×List Int) ((List Aa×List Int) ⊕ (List Aa×List Int))):=
 fun((i4,i5,l6,l7):(Int×Int×List Aa×List Int))=>(bif (decide (i5<(aA.length:Int))) then(D1 (Gg i5 aA.length) ((A9 i4 x3 l7 l6).bind fun x13=>(D1 (l7.length=x13.2.2.length) (bif (!x13.1) then(some (.done (.inr (x13.2.1,x13.2.2)))) else((Bq i4 x3 (aA.getD i5.toNat 0) x13.2.2 x13.2.1).bind fun x15=>(D1 (x13.2.2.length=x15.2.length) (some (.next ((Dm (i4+(Dm x3))),(Iq (i5+1)),x15.1,x15.2))))))))) else(some (.done (.inl (l6,l7)))))
def Dr :(List Aa×List Int)→Option (LR (List Aa×List Int) (Int×List Aa×List Int)):=
 fun(s_:(List Aa×List Int))=>match s_ with|(l1,l2)=>(some (.done ((8:Int),l1,l2)))
def Ic(Γ:Cx)(a5:Int)(a4:Int)(aA:List Int)(a0:List Int)(a1:List Aa)(r:(Int×List Aa×List Int)):Exit→St→Prop:=fK Try.prog Γ Try.f11.results.toList (Z1 a0 a1 a1.length) (Fo r.1) (Z1 r.2.2 r.2.1 r.2.1.length)
def Bj(a5:Int)(a4:Int)(aA:List Int)(a0:List Int)(a1:List Aa):Option (Int×List Aa×List Int):=
 ((Eb (S:=(List Aa×List Int)) (X:=(Int×List Aa×List Int)) ((B9 a4).bind fun x3=>(bif (bif (x3==0) then true else(decide (((16:Int):Int)<(aA.length:Int)))) then(some (.done ((1:Int),a1,a0))) else((Cl (A5 aA x3) (a5,(0:Int),a1,a0)).bind (fun x17=>(match x17 with|(.inl (l8,l9))=>(some (.done ((0:Int),l8,l9)))|(.inr (l10,l11))=>(some (.next (l10,l11)))))))) Dr).bind (fun x20=>(some x20)))
theorem C1(a5:Int)(a4:Int)(aA:List Int)(a0:List Int)(a1:List Aa)(r:(Int×List Aa×List Int))(h:Bj a5 a4 aA a0 a1=some r):Spec Try.prog 11 [(.ptr 30000 0),(.int .u64 a5),(.int .i64 a4),(AV.list 1 eU64 0 aA .none)] [(30000,.row 63 [(.vsl 35000 a0.length),(AV.list 3 Ag default a1 (.own 37001))]),(37001,.tok 3 49 a1.length),(35000,.arr 1 5 a0.length (fun i=>eU8 (a0.getD i 0)))] (.int .i64 r.1) [(30000,.row 63 [(.vsl 35000 r.2.2.length),(AV.list 3 Ag default r.2.1 (.own 37001))]),(37001,.tok 3 49 r.2.1.length),(35000,.arr 1 5 r.2.2.length (fun i=>eU8 (r.2.2.getD i 0)))]:=by
 refine Bg mix Try.func11 (fun Γ hq=>?_);unfold Bj at h;refine Ch hq [0,1,2,3] [30000,35000,37001] ?_;obtain⟨x20,hx20,h⟩:=bind_some h;refine gS hx20 (fun(s_:(List Aa×List Int))=>match s_ with|(l1,l2)=>0) (fun(s_:(List Aa×List Int))=>match s_ with|(l1,l2)=>(⟨[],(Z2 30000 35000 l2 l1 37001 l1.length),[]⟩:St)) (fun r_=>aR (Ic Γ a5 a4 aA a0 a1 r_)) ?_ ?_ ?_
 ·clear h hx20;intro y h;obtain⟨x3,hx3,h⟩:=bind_some h;refine gR hq [0,1,3,9] [30000,35000,37001] [] [⟨[],[],(Fo x3),[],[]⟩] (c1 (Fc a4 x3 hx3)) ?_;refine gR hq [0,1,3,9,20] [30000,35000,37001] [] [] (ci (gI ((x3==0)==false)) (ci (gI ((x3==0)==false)) (c1 (T4 (x3==0))))) ?_;refine gC h (fun h=>?_) (fun h=>?_)
  ·refine Ch hq [8] [30000,35000,37001] ?_;cases h;exact Uo (Tw (Pg [(30000,30000),(37001,37001),(35000,35000)] (Le.refl _ _)))
  ·refine Ch hq [0,1,9,21,22,23] [30000,35000,37001] ?_;obtain⟨x17,hx17,h⟩:=bind_some h;refine gL hq hx17 [0,1,9,21,22,23] [30000,35000,37001] (fun u (i4,i5,l6,l7)=>(R7 u [(1,(.int .u64 i4)),(23,(Fo i5))] (Z2 30000 35000 l7 l6 37001 l6.length))) (fun u x_=>match x_ with|(.inl (l8,l9))=>aG Γ (.exit 0) (⟨[],(Z2 30000 35000 l9 l8 37001 l8.length),[]⟩:St)|(.inr (l10,l11))=>aG Γ (.goto 0) (⟨[],(Z2 30000 35000 l11 l10 37001 l10.length),[]⟩:St)) ?_ ?_
   ·rintro⟨i4,i5,l6,l7⟩ y h;unfold A5 at h;refine Ch hq [0,1,9,21,22,23,24] [30000,35000,37001] ?_;refine gC h (fun h=>?_) (fun h=>?_)
    ·obtain⟨hc12,h⟩:=Ai h;refine gR hq [0,1,9,11,21,22,23] [30000,35000,37001] [] [] (c1 hc12) ?_;obtain⟨x13,hx13,h⟩:=bind_some h;obtain⟨hc14,h⟩:=Ai h;refine gR hq [0,1,9,11,21,22,23,31] [30000,35000,37001] [] [⟨[(30000,30000),(37001,37001),(35000,35000)],[],(.bool x13.1),(Z1 x13.2.2 x13.2.1 x13.2.1.length),[]⟩] (c1 (B0 i4 x3 l7 l6 x13 hx13)) ?_;refine gC h (fun h=>?_) (fun h=>?_)
     ·cases h;exact gO (P6 (J3 [] [30000,35000,37001] hq))
     ·obtain⟨x15,hx15,h⟩:=bind_some h;obtain⟨hc16,h⟩:=Ai h;refine gR hq [0,1,9,21,22,23] [30000,35000,37001] [] [⟨[(30000,30000),(37001,37001),(35000,35000)],[],(.tuple []),(Z1 x15.2 x15.1 x15.1.length),[]⟩] (c1 (F5 i4 x3 (aA.getD i5.toNat 0) x13.2.2 x13.2.1 x15 hx15)) ?_;refine Ch hq [0,1,9,21,22,23] [30000,35000,37001] ?_;refine Ch hq [0,1,9,21,22,23] [30000,35000,37001] ?_;cases h;exact gN Sr
    ·cases h;exact gO (P6 (J3 [] [30000,35000,37001] hq))
   ·clear hx17;rcases x17 with⟨l8,l9⟩|⟨l10,l11⟩
    ·refine gA ?_;refine Ch hq [8] [30000,35000,37001] ?_;cases h;exact Uo (Tw (Pg [(30000,30000),(37001,37001),(35000,35000)] (Le.refl _ _)))
    ·refine V1 (fun st' hl19=>?_);cases h;exact Wh (Le.trans hl19 Sr)
 ·clear h hx20;rintro⟨l1,l2⟩ y h;unfold Dr at h;refine Ch hq [8] [30000,35000,37001] ?_;cases h;exact Uo (Tw (Pg [(30000,30000),(37001,37001),(35000,35000)] (Le.refl _ _)))
 ·clear hx20;refine V2 (fun st' hk=>?_);obtain rfl:=OI h;exact gK hk
def A7(a8:Int)(a0:List Int):(Int×Int×Int×List Aa)→Option (LR (Int×Int×Int×List Aa) (Int×List Aa)):=
 fun((i1,i2,i3,l4):(Int×Int×Int×List Aa))=>(bif (decide (i3<a8)) then(D1 (Gg i1 a0.length) (D1 (l4.length+([(⟨false,i1,(a0.getD i1.toNat 0)⟩:Aa)]:List Aa).length≤room) (D1 (0≤(Iq ((8:Int)*i3))) (some (.next ((Dm (i1+1)),(Ex .or .u64 i2 (Pw .u64 (Dm (a0.getD i1.toNat 0)) (Iq ((8:Int)*i3)))),(Iq (i3+1)),(l4++([(⟨false,i1,(a0.getD i1.toNat 0)⟩:Aa)]:List Aa)))))))) else(some (.done (i2,l4))))
def Vl(i1:Int)(a0:List Int):=([(⟨false,i1,(a0.getD i1.toNat 0)⟩:Aa)]:List Aa)
def Bv(a5:Int)(a8:Int)(a0:List Int)(a1:List Aa):Option (Int×List Aa×List Int):=
 ((Cl (A7 a8 a0) (a5,(0:Int),(0:Int),a1)).bind (fun(i5,l6)=>(some (i5,l6,a0))))
theorem Gn(a5:Int)(a8:Int)(a0:List Int)(a1:List Aa)(r:(Int×List Aa×List Int))(h:Bv a5 a8 a0 a1=some r):Spec Try.prog 28 [(.ptr 30000 0),(.int .u64 a5),(.int .i64 a8)] [(30000,.row 63 [(.vsl 35000 a0.length),(AV.list 3 Ag default a1 (.own 37001))]),(37001,.tok 3 49 a1.length),(35000,.arr 1 5 a0.length (fun i=>eU8 (a0.getD i 0)))] (.int .u64 r.1) [(30000,.row 63 [(.vsl 35000 r.2.2.length),(AV.list 3 Ag default r.2.1 (.own 37001))]),(37001,.tok 3 49 r.2.1.length),(35000,.arr 1 5 r.2.2.length (fun i=>eU8 (r.2.2.getD i 0)))]:=by
 refine Bg mix Try.func28 (fun Γ hq=>?_);unfold Bv at h;refine Ch hq [0,1,2] [30000,35000,37001] ?_;refine Ch hq [0,1,2,7] [30000,35000,37001] ?_;refine Ch hq [0,1,7,10,11] [30000,35000,37001] ?_;obtain⟨x10,hx10,h⟩:=bind_some h;refine gL hq hx10 [0,1,7,10,11] [30000,35000,37001] (fun u (i1,i2,i3,l4)=>(R7 u [(1,(.int .u64 i1)),(7,(.int .u64 i2)),(11,(Fo i3))] [(Z4 a0.length l4),(37001,.tok 3 49 l4.length)])) (fun u (i5,l6)=>aG Γ (.exit 0) (Wj [7] [30000,35000,37001] u [(7,(.int .u64 i5))] [(Z4 a0.length l6),(37001,.tok 3 49 l6.length)])) ?_ ?_
 ·rintro⟨i1,i2,i3,l4⟩ y h;unfold A7 at h;refine Ch hq [0,1,7,10,11,12] [30000,35000,37001] ?_;refine gC h (fun h=>?_) (fun h=>?_)
  ·refine Ch hq [0,1,7,8,10,11] [30000,35000,37001] ?_;obtain⟨hc7,h⟩:=Ai h;refine gR hq [0,1,7,8,9,10,11] [30000,35000,37001] [] [] (ci hc7 (c1 (Eq.refl a0.length))) ?_;obtain⟨hc8,h⟩:=Ai h;refine gR hq [0,1,7,8,9,10,11] [30000,35000,37001] (Wf (Vl i1 a0) l4) [] (ci (Gu 3 Ag (default:Aa) (Vl i1 a0)) (ci (Eq.refl l4.length) (ci hc8 (ci (Ld 3 37001 Ag (default:Aa) l4 (Vl i1 a0)) (c1 (Ll l4 (Vl i1 a0))))))) ?_;obtain⟨hc9,h⟩:=Ai h;refine gR hq [0,1,7,10,11] [30000,35000,37001] [] [] (c1 hc9) ?_;refine Ch hq [0,1,7,10,11] [30000,35000,37001] ?_;refine Ch hq [0,1,7,10,11] [30000,35000,37001] ?_;cases h;exact gN Sr
  ·cases h;exact gO (P6 (J3 [7] [30000,35000,37001] hq))
 ·clear hx10;rcases x10 with⟨i5,l6⟩;refine gA ?_;refine Ch hq [6] [30000,35000,37001] ?_;cases h;exact Hi [(30000,30000),(37001,37001),(35000,35000)]
def A8(a3:Int)(x3:Int):(Int×Int×List Int×List Aa×List Int)→Option (LR (Int×Int×List Int×List Aa×List Int) ((List Int×List Aa×List Int) ⊕ (List Aa×List Int))):=
 fun((i5,i6,l7,l8,l9):(Int×Int×List Int×List Aa×List Int))=>(bif (decide (i6<((List.replicate a3.toNat (0:Int)).length:Int))) then((A9 i5 x3 l9 l8).bind fun x15=>(D1 (l9.length=x15.2.2.length) (bif (!x15.1) then(some (.done (.inr (x15.2.1,x15.2.2)))) else((Bv i5 x3 x15.2.2 x15.2.1).bind fun x17=>(D1 (x15.2.2.length=x17.2.2.length) (D1 (Gg i6 l7.length) (some (.next ((Dm (i5+(Dm x3))),(Iq (i6+1)),(l7.set i6.toNat x17.1),x17.2.1,x17.2.2))))))))) else(some (.done (.inl (l7,l8,l9)))))
def D4 :(List Aa×List Int)→Option (LR (List Aa×List Int) (List Int×Int×List Aa×List Int)):=
 fun(s_:(List Aa×List Int))=>match s_ with|(l1,l2)=>(some (.done (([]:List Int),(8:Int),l1,l2)))
def Ir(Γ:Cx)(a5:Int)(a4:Int)(a3:Int)(a0:List Int)(a1:List Aa)(r:(List Int×Int×List Aa×List Int)):Exit→St→Prop:=fK Try.prog Γ Try.f13.results.toList (Z1 a0 a1 a1.length) (.tuple [(AV.list 1 eU64 0 r.1 (.own 20000)),(Fo r.2.1)]) [(Z4 r.2.2.2.length r.2.2.1),(37001,.tok 3 49 r.2.2.1.length),(Z6 35000 r.2.2.2),(20000,.tok 1 33 r.1.length)]
def Uh:AV:=(AV.list 1 eU64 0 ([]:List Int) .exact)
def Vq(l2:List Int)(l1:List Aa):List (Nat×Own):=(Z2 30000 35000 l2 l1 37001 l1.length)
def Wa(l10:List Int)(l12:List Int)(l11:List Aa):List (Nat×Own):=[(26,.arr 1 33 l10.length (fun i=>eU64 (l10.getD i 0))),(Z4 l12.length l11),(Z6 35000 l12),(37001,.tok 3 49 l11.length)]
def V9(a0:List Int)(a1:List Aa):=(⟨[(8,Uh),(9,(.int .i64 (1:Int)))],(Z2 30000 35000 a0 a1 37001 a1.length),[]⟩:St)
def V8(l2:List Int)(l1:List Aa):=(⟨[(8,(AV.list 1 eU64 0 ([]:List Int) (.own 6008))),(9,(.int .i64 (8:Int)))],[(6008,.tok 1 33 (([]:List Int).length)),(Z4 l2.length l1),(Z6 35000 l2),(37001,.tok 3 49 l1.length)],[]⟩:St)
def V7(a0:List Int)(a1:List Aa):=(⟨[(8,(AV.list 1 eU64 0 ([]:List Int) (.own 6008))),(9,(.int .i64 (1:Int)))],[(6008,.tok 1 33 (([]:List Int).length)),(Z4 a0.length a1),(Z6 35000 a0),(37001,.tok 3 49 a1.length)],[]⟩:St)
def Bp(a5:Int)(a4:Int)(a3:Int)(a0:List Int)(a1:List Aa):Option (List Int×Int×List Aa×List Int):=
 ((Eb (S:=(List Aa×List Int)) (X:=(List Int×Int×List Aa×List Int)) ((B9 a4).bind fun x3=>(bif (bif (bif (x3==0) then true else(decide (a3<0))) then true else(decide (((16:Int):Int)<a3))) then(some (.done (([]:List Int),(1:Int),a1,a0))) else(D1 (0≤a3∧a3≤a3∧a3≤(room:Int)) ((Cl (A8 a3 x3) (a5,(0:Int),(List.replicate a3.toNat (0:Int)),a1,a0)).bind (fun x20=>(match x20 with|(.inl (l10,l11,l12))=>(some (.done (l10,(0:Int),l11,l12)))|(.inr (l13,l14))=>(some (.next (l13,l14))))))))) D4).bind (fun x23=>(some x23)))
theorem De(a5:Int)(a4:Int)(a3:Int)(a0:List Int)(a1:List Aa)(r:(List Int×Int×List Aa×List Int))(h:Bp a5 a4 a3 a0 a1=some r):Spec Try.prog 13 [(.ptr 30000 0),(.int .u64 a5),(.int .i64 a4),(.int .i64 a3)] [(30000,.row 63 [(.vsl 35000 a0.length),(AV.list 3 Ag default a1 (.own 37001))]),(37001,.tok 3 49 a1.length),(35000,.arr 1 5 a0.length (fun i=>eU8 (a0.getD i 0)))] (.tuple [(AV.list 1 eU64 0 r.1 (.own 20000)),(.int .i64 r.2.1)]) [(30000,.row 63 [(.vsl 35000 r.2.2.2.length),(AV.list 3 Ag default r.2.2.1 (.own 37001))]),(37001,.tok 3 49 r.2.2.1.length),(35000,.arr 1 5 r.2.2.2.length (fun i=>eU8 (r.2.2.2.getD i 0))),(20000,.tok 1 33 r.1.length)]:=by
 refine Bg mix Try.func13 (fun Γ hq=>?_);have hΓ:=hq.own;unfold Bp at h;refine gR hq [0,1,2,3] [30000,35000,37001] [(8,Uh)] [] (c1 (Di 1 eU64 (0:Int))) ?_;obtain⟨x23,hx23,h⟩:=bind_some h;refine gS hx23 (fun(s_:(List Aa×List Int))=>match s_ with|(l1,l2)=>0) (fun(s_:(List Aa×List Int))=>match s_ with|(l1,l2)=>(⟨[],(Vq l2 l1),[]⟩:St)) (fun r_=>aR (Ir Γ a5 a4 a3 a0 a1 r_)) ?_ ?_ ?_
 ·clear h hx23;intro y h;obtain⟨x3,hx3,h⟩:=bind_some h;refine gR hq [0,1,3,10] [30000,35000,37001] [] [⟨[],[],(Fo x3),[],[]⟩] (c1 (Fc a4 x3 hx3)) ?_;refine gR hq [0,1,3,10,24] [30000,35000,37001] [] [] (ci (gI ((x3==0)==false)) (ci (T4 (x3==0)) (ci (gI ((bif (x3==0) then true else(decide (a3<0)))==false)) (c1 (T4 (bif (x3==0) then true else(decide (a3<0)))))))) ?_;refine gC h (fun h=>?_) (fun h=>?_)
  ·refine gR hq [8,9] [30000,35000,37001] [(8,Uh)] [] (c1 (Di 1 eU64 (0:Int))) ?_;refine T3 (V9 a0 a1) ?_;cases h;exact Uo (Tw (Pg [(30000,30000),(37001,37001),(35000,35000),(6008,20000)] (show Le Γ _ (V7 a0 a1) from Le.trans (J3 (st':=(V9 a0 a1)) [8,9] [30000,35000,37001] hq) (Le.trans (Nt (t:=8) (nm:=6008) (sz':=1) (fun i=>eU64 (([]:List Int).getD i 0)) 33 rfl rfl (.inl ⟨rfl,rfl⟩) (fun h_=>absurd h_ (by decide))) (J3 (st':=(V7 a0 a1)) [8,9] [6008,30000,35000,37001] hq)))))
  ·obtain⟨hc4,h⟩:=Ai h;refine gR hq [0,1,10,11] [26,30000,35000,37001] [] [] (c1 hc4) ?_;refine Vm (Le.trans (V3 26 (show ∀ k_,k_<(a3.toNat)→AVleL ((fun i_=>AV.eraseAll (fun n_=>Ci n_ [26,30000,35000,37001]) ((fun _=>[(.int .u64 (0:Int))]) i_)) k_) ((fun i=>eU64 ((List.replicate a3.toNat (0:Int)).getD i 0)) k_) from(fun k hk=>Ss (e:=eU64) (d:=(0:Int)) (.cons (AVle.refl _) .nil) _ k (S5 hk)))) (V4 (fun(k_:Nat) u=>(R7 u [(11,(.vsl 26 k_))] [(26,.arr 1 33 k_ (fun i=>eU64 ((List.replicate a3.toNat (0:Int)).getD i 0)))])) (show a3.toNat=(List.replicate a3.toNat (0:Int)).length from(List.length_replicate ..).symm))) ?_;refine Ch hq [0,1,10,11,28,29] [26,30000,35000,37001] ?_;obtain⟨x20,hx20,h⟩:=bind_some h;refine gL hq hx20 [0,1,10,11,28,29] [26,30000,35000,37001] (fun u (i5,i6,l7,l8,l9)=>(R7 u [(1,(.int .u64 i5)),(11,(.vsl 26 l7.length)),(29,(Fo i6))] [(26,.arr 1 33 l7.length (fun i=>eU64 (l7.getD i 0))),(Z4 l9.length l8),(Z6 35000 l9),(37001,.tok 3 49 l8.length)])) (fun u x_=>match x_ with|(.inl (l10,l11,l12))=>aG Γ (.exit 0) (⟨[(11,(.vsl 26 l10.length))],(Wa l10 l12 l11),[]⟩:St)|(.inr (l13,l14))=>aG Γ (.goto 0) (⟨[],(Z2 30000 35000 l14 l13 37001 l13.length),[]⟩:St)) ?_ ?_
   ·rintro⟨i5,i6,l7,l8,l9⟩ y h;unfold A8 at h;refine Ch hq [0,1,10,11,28,29,30] [26,30000,35000,37001] ?_;refine gC h (fun h=>?_) (fun h=>?_)
    ·refine Ch hq [0,1,10,11,12,28,29] [26,30000,35000,37001] ?_;obtain⟨x15,hx15,h⟩:=bind_some h;obtain⟨hc16,h⟩:=Ai h;refine gR hq [0,1,10,11,12,28,29,36] [26,30000,35000,37001] [] [⟨[(30000,30000),(37001,37001),(35000,35000)],[],(.bool x15.1),(Z1 x15.2.2 x15.2.1 x15.2.1.length),[]⟩] (c1 (B0 i5 x3 l9 l8 x15 hx15)) ?_;refine gC h (fun h=>?_) (fun h=>?_)
     ·cases h;exact gO (P6 (J3 [] [30000,35000,37001] hq))
     ·obtain⟨x17,hx17,h⟩:=bind_some h;obtain⟨hc18,h⟩:=Ai h;obtain⟨hc19,h⟩:=Ai h;refine gR hq [0,1,10,11,28,29] [26,30000,35000,37001] [] [⟨[(30000,30000),(37001,37001),(35000,35000)],[],(.int .u64 x17.1),(Z1 x17.2.2 x17.2.1 x17.2.1.length),[]⟩] (ci (Gn i5 x3 x15.2.2 x15.2.1 x17 hx17) (ci hc19 (c1 (Eq.refl l7.length)))) ?_;refine Vm (Le.trans (V3 26 (show ∀ k_,k_<l7.length→AVleL ((fun i_=>AV.eraseAll (fun n_=>Ci n_ [26,30000,35000,37001]) ((Jo (fun i=>eU64 (l7.getD i 0)) i6.toNat 0 [(.int .u64 x17.1)]) i_)) k_) ((fun i=>eU64 ((l7.set i6.toNat x17.1).getD i 0)) k_) from(Ks (List.length_set ..).symm (fun k_ hk_=>(congrArg (AV.eraseAll (fun n_=>Ci n_ [26,30000,35000,37001])) ((Mz (fun _ _=>rfl) (Ok hc19) rfl) k_ hk_)).trans rfl)))) (V4 (fun(k_:Nat) u=>(R7 u [(11,(.vsl 26 k_))] [(26,.arr 1 33 k_ (fun i=>eU64 ((l7.set i6.toNat x17.1).getD i 0)))])) (show l7.length=(l7.set i6.toNat x17.1).length from(List.length_set ..).symm))) ?_;refine Ch hq [0,1,10,11,28,29] [26,30000,35000,37001] ?_;refine Ch hq [0,1,10,11,28,29] [26,30000,35000,37001] ?_;cases h;exact gN Sr
    ·cases h;exact gO (P6 (J3 [11] [26,30000,35000,37001] hq))
   ·clear hx20;rcases x20 with⟨l10,l11,l12⟩|⟨l13,l14⟩
    ·refine gA ?_;refine Ch hq [8,9] [26,30000,35000,37001] ?_;refine T3 (⟨[(8,(.vsl 26 l10.length)),(9,(.int .i64 (0:Int)))],(Wa l10 l12 l11),[]⟩:St) ?_;cases h;exact Uo (Tw (Pg [(30000,30000),(37001,37001),(35000,35000),(26,20000)] (Le.trans (Kt (nm:=26) (sz:=1) (n:=l10.length) (e:=33) (f:=(fun i=>eU64 (l10.getD i 0))) (g:=(fun i=>eU64 (l10.getD i 0))) rfl ⟨rfl,trivial⟩ (fun _ _=>rfl) (by rw[hΓ];rfl)) (To (st':=⟨[(8,(AV.list 1 eU64 0 l10 (.own 26))),(9,(.int .i64 (0:Int)))],[(26,.tok 1 33 l10.length),(Z4 l12.length l11),(Z6 35000 l12),(37001,.tok 3 49 l11.length)],[]⟩) (by kernel_rfl)))))
    ·refine V1 (fun st' hl22=>?_);cases h;exact Wh (Le.trans hl22 Sr)
 ·clear h hx23;rintro⟨l1,l2⟩ y h;unfold D4 at h;refine gR hq [8,9] [30000,35000,37001] [(8,Uh)] [] (c1 (Di 1 eU64 (0:Int))) ?_;refine T3 (⟨[(8,Uh),(9,(.int .i64 (8:Int)))],(Vq l2 l1),[]⟩:St) ?_;cases h;exact Uo (Tw (Pg [(30000,30000),(37001,37001),(35000,35000),(6008,20000)] (show Le Γ _ (V8 l2 l1) from Le.trans (J3 (st':=⟨[(8,Uh),(9,(.int .i64 (8:Int)))],(Vq l2 l1),[]⟩) [8,9] [30000,35000,37001] hq) (Le.trans (Nt (t:=8) (nm:=6008) (sz':=1) (fun i=>eU64 (([]:List Int).getD i 0)) 33 rfl rfl (.inl ⟨rfl,rfl⟩) (fun h_=>absurd h_ (by decide))) (J3 (st':=(V8 l2 l1)) [8,9] [6008,30000,35000,37001] hq)))))
 ·clear hx23;refine V2 (fun st' hk=>?_);obtain rfl:=OI h;exact gK hk
def Uw(x1:List Int):=(fun i=>eU8 (x1.getD i 0))
def Bh(a0:List Int)(a1:List Aa):Option (List Int×List Aa×List Int):=
 ((Au a0).bind fun x1=>(some (x1,a1,a0)))
theorem Bz(a0:List Int)(a1:List Aa)(r:(List Int×List Aa×List Int))(h:Bh a0 a1=some r):Spec Try.prog 19 [(.ptr 30000 0)] [(30000,.row 63 [(.vsl 35000 a0.length),(AV.list 3 Ag default a1 (.own 37001))]),(37001,.tok 3 49 a1.length),(35000,.arr 1 5 a0.length (fun i=>eU8 (a0.getD i 0)))] (AV.list 1 eU8 0 r.1 (.own 20000)) [(30000,.row 63 [(.vsl 35000 r.2.2.length),(AV.list 3 Ag default r.2.1 (.own 37001))]),(37001,.tok 3 49 r.2.1.length),(35000,.arr 1 5 r.2.2.length (fun i=>eU8 (r.2.2.getD i 0))),(20000,.tok 1 5 r.1.length)]:=by
 refine Bg mix Try.func19 (fun Γ hq=>?_);have hΓ:=hq.own;unfold Bh at h;refine gR hq [0] [30000,35000,37001] [(2,(AV.list 1 eU8 0 ([]:List Int) .exact))] [] (c1 (Di 1 eU8 (0:Int))) ?_;refine Ch hq [0,4] [30000,35000,37001] ?_;refine Sk false ?_;obtain⟨x1,hx1,h⟩:=bind_some h;refine gR hq [2] [9,30000,35000,37001] [] [⟨[],[(20000,9)],(.vsl 20000 x1.length),[(20000,.arr 1 5 x1.length (Uw x1))],[35000]⟩] (ci (B5 a0 x1 hx1) (ci (show(Kq [(20000,.arr 1 5 x1.length (Uw x1))]) from⟨(fun _ _=>rfl),trivial⟩) (c1 (Eq.refl a0.length)))) ?_;refine T3 (⟨[(2,(.vsl 9 x1.length))],[(9,.arr 1 5 x1.length (Uw x1)),(Z4 a0.length a1),(Z6 35000 a0),(37001,.tok 3 49 a1.length)],[]⟩:St) ?_;cases h;exact gK (e:=.ret) (Pg [(30000,30000),(37001,37001),(35000,35000),(9,20000)] (Le.trans (Kt (nm:=9) (sz:=1) (n:=x1.length) (e:=5) (f:=(Uw x1)) (g:=(Uw x1)) rfl ⟨rfl,trivial⟩ (fun _ _=>rfl) (by rw[hΓ];rfl)) (To (st':=⟨[(2,(AV.list 1 eU8 0 x1 (.own 9)))],[(9,.tok 1 5 x1.length),(Z4 a0.length a1),(Z6 35000 a0),(37001,.tok 3 49 a1.length)],[]⟩) (by kernel_rfl))))
def Ui:AV:=Vv
def Wb:=(⟨[(2,(AV.list 3 Ag default ([]:List Aa) (.own 6002)))],[(6002,.tok 3 49 (([]:List Aa).length))],[]⟩:St)
def Av(a7:List Aa):Option (List Aa):=
 (D1 (([]:List Aa).length+a7.length≤room) (some (([]:List Aa)++a7)))
theorem Cm(a7:List Aa)(r:List Aa)(h:Av a7=some r):Spec Try.prog 29 [(AV.list 3 Ag default a7 .none)] [] (AV.list 3 Ag default r (.own 20000)) [(20000,.tok 3 49 r.length)]:=by
 refine Bg mix Try.func29 (fun Γ hq=>?_);unfold Av at h;refine gR hq [0] [] [(2,Ui)] [] (c1 (Di 3 Ag (default:Aa))) ?_;refine Ch hq [0,4] [] ?_;refine U5 true a7.length (fun hb=>?_) (fun hb=>?_)
 ·replace h:=Rm (some ([]:List Aa)) (fun(l2:List Aa)=>(D1 (([]:List Aa).length+l2.length≤room) (some (([]:List Aa)++l2)))) h (hb rfl) rfl (fun h0=>by first|exact h0|simpa [D1,room] using h0);clear hb;refine gR hq [2] [] [(2,Ui)] [] (c1 (Di 3 Ag (default:Aa))) ?_;refine T3 (⟨[(2,Ui)],[],[]⟩:St) ?_;cases h;exact gK (e:=.ret) (Pg [(6002,20000)] (show Le Γ _ Wb from Le.trans (J3 (st':=⟨[(2,Ui)],[],[]⟩) [2] [] hq) (Le.trans (Nt (t:=2) (nm:=6002) (sz':=3) (fun i=>Ag (([]:List Aa).getD i default)) 49 rfl rfl (.inl ⟨rfl,rfl⟩) (fun h_=>absurd h_ (by decide))) (J3 (st':=Wb) [2] [6002] hq))))
 ·clear hb;obtain⟨hc1,h⟩:=Ai h;refine gR hq [2] [7] [(5,Ui),(7,(AV.list 3 Ag default (([]:List Aa)++a7) (.own 7)))] [] (ci (show(AVle (.slice 3 0 (fun i=>([]:List (List AV)).getD i []) .exact) Ui) from Nh rfl (fun i hi=>absurd hi (Nat.not_lt_zero i))) (ci hc1 (ci (show(49=Hd→([]:List Aa).length=0∨0<a7.length) from(fun h_=>absurd h_ (by decide))) (ci (Ld 3 7 Ag (default:Aa) ([]:List Aa) a7) (c1 (Ll ([]:List Aa) a7)))))) ?_;cases h;exact Hi [(7,20000)]
def Bi(a0:List Int)(a1:List Aa):Option (List Aa×List Aa×List Int):=
 ((Av a1).bind fun x1=>(some (x1,a1,a0)))
theorem B1(a0:List Int)(a1:List Aa)(r:(List Aa×List Aa×List Int))(h:Bi a0 a1=some r):Spec Try.prog 21 [(.ptr 30000 0)] [(30000,.row 63 [(.vsl 35000 a0.length),(AV.list 3 Ag default a1 (.own 37001))]),(37001,.tok 3 49 a1.length),(35000,.arr 1 5 a0.length (fun i=>eU8 (a0.getD i 0)))] (AV.list 3 Ag default r.1 (.own 20000)) [(30000,.row 63 [(.vsl 35000 r.2.2.length),(AV.list 3 Ag default r.2.1 (.own 37001))]),(37001,.tok 3 49 r.2.1.length),(35000,.arr 1 5 r.2.2.length (fun i=>eU8 (r.2.2.getD i 0))),(20000,.tok 3 49 r.1.length)]:=by
 refine Bg mix Try.func21 (fun Γ hq=>?_);unfold Bi at h;refine gR hq [0] [30000,35000,37001] [(2,Vv)] [] (c1 (Di 3 Ag (default:Aa))) ?_;refine Ch hq [0,4] [30000,35000,37001] ?_;refine Sk false ?_;obtain⟨x1,hx1,h⟩:=bind_some h;refine gR hq [2] [9,30000,35000,37001] [] [⟨[],[(20000,9)],(Z7 x1),[(20000,.tok 3 49 x1.length)],[]⟩] (c1 (Cm a1 x1 hx1)) ?_;cases h;exact Hi [(30000,30000),(37001,37001),(35000,35000),(9,20000)]
def Ul(x5:(List Int×Int×List Aa×List Int)):=(x5.2.1==0)
def Th(x3:(Int×List Aa×List Int)):=((x3.1==0)==true)
def Wk(x5:(List Int×Int×List Aa×List Int)):=(((x5.1.length:Int):Int)==1)
def Qa(x3:(Int×List Aa×List Int))(x9:(List Int×List Aa×List Int)):=(bif (x3.1==0) then(((x9.1.length:Int):Int)==4) else false)
def Un(x9:(List Int×List Aa×List Int)):=(((x9.1.getD (2:Int).toNat (0:Int)):Int)==2)
def N9(x3:(Int×List Aa×List Int))(x9:(List Int×List Aa×List Int)):=(bif (bif (Qa x3 x9) then(Un x9) else false) then(((x9.1.getD (3:Int).toNat (0:Int)):Int)==1) else false)
def L1(x3:(Int×List Aa×List Int))(x9:(List Int×List Aa×List Int))(x5:(List Int×Int×List Aa×List Int)):=(bif (bif (N9 x3 x9) then(Ul x5) else false) then(Wk x5) else false)
def Wl(x5:(List Int×Int×List Aa×List Int)):=(((x5.1.getD (0:Int).toNat (0:Int)):Int)==16910601)
def P5(x3:(Int×List Aa×List Int))(x9:(List Int×List Aa×List Int))(x5:(List Int×Int×List Aa×List Int)):=(bif (L1 x3 x9 x5) then(Wl x5) else false)
def Tg(x3:(Int×List Aa×List Int))(x9:(List Int×List Aa×List Int))(x5:(List Int×Int×List Aa×List Int)):=((bif (N9 x3 x9) then(Ul x5) else false)==true)
def Um(x15:(List Aa×List Aa×List Int)):AV:=(Z7 x15.1)
def R5:=([(9:Int),(9:Int),(9:Int),(9:Int)]:List Int)
def P4(x3:(Int×List Aa×List Int))(x9:(List Int×List Aa×List Int)):=((Qa x3 x9)==true)
def P3(x3:(Int×List Aa×List Int))(x9:(List Int×List Aa×List Int)):=((bif (Qa x3 x9) then(Un x9) else false)==true)
def Vr(x9:(List Int×List Aa×List Int)):List (Nat×Own):=(Z1 x9.2.2 x9.2.1 x9.2.1.length)
def Ux(x18:(Bool×List Aa×List Int)):List (Nat×Own):=(Z1 x18.2.2 x18.2.1 x18.2.1.length)
def Wc(x15:(List Aa×List Aa×List Int)):List (Nat×Own):=(Z1 x15.2.2 x15.2.1 x15.2.1.length)
def Wd(x21:(Bool×List Aa×List Int)):List (Nat×Own):=(Z1 x21.2.2 x21.2.1 x21.2.1.length)
def Uk(x1:((Bool×Hs)×Int)):List (Nat×Own):=(Z2 20000 21000 x1.1.2.bytes x1.1.2.trace 21001 x1.1.2.trace.length)
def Uj(x15:(List Aa×List Aa×List Int)):List (Nat×Own):=(Z3 x15.2.2 x15.2.1 x15.2.1.length x15.1.length)
def m_locksteplaw12_awake :Option Bool:=
 ((Cr ([(9:Int),(9:Int),(9:Int),(9:Int)]:List Int)).bind fun x1=>(bif x1.1.1 then(bif (x1.2 !=0) then(some false) else((Bj (2:Int) (16:Int) ([(258:Int)]:List Int) x1.1.2.bytes x1.1.2.trace).bind fun x3=>(D1 (x1.1.2.bytes.length=x3.2.2.length) ((Bp (0:Int) (32:Int) (1:Int) x3.2.2 x3.2.1).bind fun x5=>(D1 (x3.2.2.length=x5.2.2.2.length) ((Bp (1:Int) (32:Int) (1:Int) x5.2.2.2 x5.2.2.1).bind fun x7=>(D1 (x5.2.2.2.length=x7.2.2.2.length) ((Bh x7.2.2.2 x7.2.2.1).bind fun x9=>(D1 (x7.2.2.2.length=x9.2.2.length) (D1 (((bif (x3.1==0) then(((x9.1.length:Int):Int)==4) else false)==true)=true→(Gg (2:Int) x9.1.length)) (D1 (((bif (bif (x3.1==0) then(((x9.1.length:Int):Int)==4) else false) then(((x9.1.getD (2:Int).toNat (0:Int)):Int)==2) else false)==true)=true→(Gg (3:Int) x9.1.length)) (D1 (((bif (bif (bif (bif (bif (x3.1==0) then(((x9.1.length:Int):Int)==4) else false) then(((x9.1.getD (2:Int).toNat (0:Int)):Int)==2) else false) then(((x9.1.getD (3:Int).toNat (0:Int)):Int)==1) else false) then(x5.2.1==0) else false) then(((x5.1.length:Int):Int)==1) else false)==true)=true→(Gg (0:Int) x5.1.length)) (bif (bif (bif (bif (bif (bif (bif (bif (x3.1==0) then(((x9.1.length:Int):Int)==4) else false) then(((x9.1.getD (2:Int).toNat (0:Int)):Int)==2) else false) then(((x9.1.getD (3:Int).toNat (0:Int)):Int)==1) else false) then(x5.2.1==0) else false) then(((x5.1.length:Int):Int)==1) else false) then(((x5.1.getD (0:Int).toNat (0:Int)):Int)==16910601) else false) then(x7.2.1==8) else false) then((Bi x9.2.2 x9.2.1).bind fun x15=>(D1 (x9.2.2.length=x15.2.2.length) (bif (((x15.1.length:Int):Int)==6) then((A9 (3:Int) (1:Int) x15.2.2 x15.2.1).bind fun x18=>(D1 (x15.2.2.length=x18.2.2.length) (bif x18.1 then((A9 (3:Int) (2:Int) x18.2.2 x18.2.1).bind fun x21=>(D1 (x18.2.2.length=x21.2.2.length) (some (!x21.1)))) else(some false)))) else(some false)))) else(some false)))))))))))))) else(some false)))
theorem Es  (r:Bool) (h:m_locksteplaw12_awake=some r):Spec Try.prog 9 [] [] (.bool r) []:=by
 refine Bg mix Try.func9 (fun Γ hq=>?_);unfold m_locksteplaw12_awake at h;refine Ch hq [] [] ?_;obtain⟨x1,hx1,h⟩:=bind_some h;refine gB h (fun hs2 h=>?_) (fun hs2 h=>?_)
 ·refine gR hq [1,2] [11,60011000,60011001] [(10,(AV.list 1 eU8 0 R5 .exact))] [⟨[],[(20000,11),(21000,60011000),(21001,60011001)],(.tuple [(bif true then((.ptr 20000 0):AV) else .nilp),(Fo x1.2)]),(bif true then(Uk x1) else[]),[]⟩] (ci (Gu 1 eU8 (0:Int) R5) (c1 (show(Spec Try.prog 10 [(AV.list 1 eU8 0 R5 .none)] [] (.tuple [(bif true then((.ptr 20000 0):AV) else .nilp),(Fo x1.2)]) (bif true then(Uk x1) else[])) from(Tl (fun b_:Bool=>Spec Try.prog 10 [(AV.list 1 eU8 0 R5 .none)] [] (.tuple [(bif b_ then((.ptr 20000 0):AV) else .nilp),(Fo x1.2)]) (bif b_ then(Uk x1) else[])) hs2 (Cf R5 x1 hx1))))) ?_;refine gR hq [1,19] [11,60011000,60011001] [] [] (ci (show((false==false)=true→(false==false)=true) from(fun _=>rfl)) (c1 (show(false=false→(false==false)=true) from(fun _=>rfl)))) ?_;refine gC h (fun h=>?_) (fun h=>?_)
  ·refine Ch hq [0] [] ?_;obtain rfl:=OI h;exact Hi []
  ·obtain⟨x3,hx3,h⟩:=bind_some h;obtain⟨hc4,h⟩:=Ai h;refine gR hq [1,3] [11,60011000,60011001] [(21,(AV.list 1 eU64 0 ([(258:Int)]:List Int) .exact))] [⟨[(11,30000),(60011001,37001),(60011000,35000)],[],(Fo x3.1),(Z1 x3.2.2 x3.2.1 x3.2.1.length),[]⟩] (ci (Gu 1 eU64 (0:Int) ([(258:Int)]:List Int)) (c1 (C1 (2:Int) (16:Int) ([(258:Int)]:List Int) x1.1.2.bytes x1.1.2.trace x3 hx3))) ?_;obtain⟨x5,hx5,h⟩:=bind_some h;obtain⟨hc6,h⟩:=Ai h;refine gR hq [1,3,4,5] [11,25,60011000,60011001] [] [(Vs 11 60011001 60011000 25 x5.1 x5.2.1 x5.2.2.2.length x5.2.2.1 x5.2.2.1.length x5.2.2.2 x5.1.length)] (c1 (De (0:Int) (32:Int) (1:Int) x3.2.2 x3.2.1 x5 hx5)) ?_;obtain⟨x7,hx7,h⟩:=bind_some h;obtain⟨hc8,h⟩:=Ai h;refine gR hq [1,3,4,5,7] [11,25,60011000,60011001] [] [(Vs 11 60011001 60011000 30 x7.1 x7.2.1 x7.2.2.2.length x7.2.2.1 x7.2.2.1.length x7.2.2.2 x7.1.length)] (c1 (De (1:Int) (32:Int) (1:Int) x5.2.2.2 x5.2.2.1 x7 hx7)) ?_;obtain⟨x9,hx9,h⟩:=bind_some h;obtain⟨hc10,h⟩:=Ai h;refine gR hq [1,3,4,5,7,8] [11,25,34,60011000,60011001] [] [⟨[(11,30000),(60011001,37001),(60011000,35000)],[(20000,34)],(Uz x9.1),[(Z4 x9.2.2.length x9.2.1),(37001,.tok 3 49 x9.2.1.length),(Z6 35000 x9.2.2),(20000,.tok 1 5 x9.1.length)],[]⟩] (c1 (Bz x7.2.2.2 x7.2.2.1 x9 hx9)) ?_;obtain⟨hc11,h⟩:=Ai h;obtain⟨hc12,h⟩:=Ai h;obtain⟨hc13,h⟩:=Ai h;refine gB h (fun hs14 h=>?_) (fun hs14 h=>?_)
   ·obtain⟨x15,hx15,h⟩:=bind_some h;obtain⟨hc16,h⟩:=Ai h;refine gB h (fun hs17 h=>?_) (fun hs17 h=>?_)
    ·obtain⟨x18,hx18,h⟩:=bind_some h;obtain⟨hc19,h⟩:=Ai h;refine gB h (fun hs20 h=>?_) (fun hs20 h=>?_)
     ·obtain⟨x21,hx21,h⟩:=bind_some h;obtain⟨hc22,h⟩:=Ai h;refine gR hq [0] [] [(73,(.bool true)),(79,(.bool true)),(83,(.bool true))] [(Vt (Um x15) (Uj x15)),(Vw x18.1 (Ux x18)),(Vw x21.1 (Wd x21))] (ci (gI (Th x3)) (ci (gI (Th x3)) (ci (G0 (x3.1==0)) (ci (gI (P4 x3 x9)) (ci hc11 (ci (gI (P4 x3 x9)) (ci (gI (P4 x3 x9)) (ci (G0 (Qa x3 x9)) (ci (gI (P3 x3 x9)) (ci hc12 (ci (gI (P3 x3 x9)) (ci (gI (P3 x3 x9)) (ci (G0 (bif (Qa x3 x9) then(Un x9) else false)) (ci (gI ((N9 x3 x9)==true)) (ci (G0 (N9 x3 x9)) (ci (gI (Tg x3 x9 x5)) (ci (gI (Tg x3 x9 x5)) (ci (G0 (bif (N9 x3 x9) then(Ul x5) else false)) (ci (gI ((L1 x3 x9 x5)==true)) (ci hc13 (ci (gI ((L1 x3 x9 x5)==true)) (ci (gI ((L1 x3 x9 x5)==true)) (ci (G0 (L1 x3 x9 x5)) (ci (gI ((P5 x3 x9 x5)==true)) (ci (G0 (P5 x3 x9 x5)) (ci (show(AVle (.bool (bif (P5 x3 x9 x5) then(x7.2.1==8) else false)) (.bool true)) from(Cs hs14)) (ci (show((true==true)=true→(true==true)=true) from(fun _=>rfl)) (ci (show((true==true)=true→(Spec Try.prog 21 [(.ptr 30000 0)] (Vr x9) (Um x15) (Uj x15))) from(fun _=>(B1 x9.2.2 x9.2.1 x15 hx15))) (ci (show((true==true)=true→(true==true)=true) from(fun _=>rfl)) (ci (show((true==true)=true→(true==true)=true) from(fun _=>rfl)) (ci (show(true=true→(true==true)=true) from(fun _=>rfl)) (ci (show(AVle (.bool (((x15.1.length:Int):Int)==6)) (.bool true)) from(Cs hs17)) (ci (show((true==true)=true→(true==true)=true) from(fun _=>rfl)) (ci (show((true==true)=true→(Spec Try.prog 16 [(.ptr 30000 0),Ti,(.int .i64 (1:Int))] (Wc x15) (.bool x18.1) (Ux x18))) from(fun _=>(B0 (3:Int) (1:Int) x15.2.2 x15.2.1 x18 hx18))) (ci (show(true=true→(true==true)=true) from(fun _=>rfl)) (ci (show(AVle (.bool x18.1) (.bool true)) from(Cs hs20)) (ci (show((true==true)=true→(true==true)=true) from(fun _=>rfl)) (ci (show((true==true)=true→(Spec Try.prog 16 [(.ptr 30000 0),Ti,(.int .i64 (2:Int))] (Ux x18) (.bool x21.1) (Wd x21))) from(fun _=>(B0 (3:Int) (2:Int) x18.2.2 x18.2.1 x21 hx21))) (ci (show((true==true)=true→(true==true)=true) from(fun _=>rfl)) (c1 (show(true=true→(true==true)=true) from(fun _=>rfl)))))))))))))))))))))))))))))))))))))))))) ?_;cases h;exact Hi []
     ·refine gR hq [0] [] [(73,(.bool true)),(79,(.bool true)),(83,(.bool false))] [(Vt (Um x15) (Uj x15)),(Vw x18.1 (Ux x18)),Z8] (ci (gI (Th x3)) (ci (gI (Th x3)) (ci (G0 (x3.1==0)) (ci (gI (P4 x3 x9)) (ci hc11 (ci (gI (P4 x3 x9)) (ci (gI (P4 x3 x9)) (ci (G0 (Qa x3 x9)) (ci (gI (P3 x3 x9)) (ci hc12 (ci (gI (P3 x3 x9)) (ci (gI (P3 x3 x9)) (ci (G0 (bif (Qa x3 x9) then(Un x9) else false)) (ci (gI ((N9 x3 x9)==true)) (ci (G0 (N9 x3 x9)) (ci (gI (Tg x3 x9 x5)) (ci (gI (Tg x3 x9 x5)) (ci (G0 (bif (N9 x3 x9) then(Ul x5) else false)) (ci (gI ((L1 x3 x9 x5)==true)) (ci hc13 (ci (gI ((L1 x3 x9 x5)==true)) (ci (gI ((L1 x3 x9 x5)==true)) (ci (G0 (L1 x3 x9 x5)) (ci (gI ((P5 x3 x9 x5)==true)) (ci (G0 (P5 x3 x9 x5)) (ci (show(AVle (.bool (bif (P5 x3 x9 x5) then(x7.2.1==8) else false)) (.bool true)) from(Cs hs14)) (ci (show((true==true)=true→(true==true)=true) from(fun _=>rfl)) (ci (show((true==true)=true→(Spec Try.prog 21 [(.ptr 30000 0)] (Vr x9) (Um x15) (Uj x15))) from(fun _=>(B1 x9.2.2 x9.2.1 x15 hx15))) (ci (show((true==true)=true→(true==true)=true) from(fun _=>rfl)) (ci (show((true==true)=true→(true==true)=true) from(fun _=>rfl)) (ci (show(true=true→(true==true)=true) from(fun _=>rfl)) (ci (show(AVle (.bool (((x15.1.length:Int):Int)==6)) (.bool true)) from(Cs hs17)) (ci (show((true==true)=true→(true==true)=true) from(fun _=>rfl)) (ci (show((true==true)=true→(Spec Try.prog 16 [(.ptr 30000 0),Ti,(.int .i64 (1:Int))] (Wc x15) (.bool x18.1) (Ux x18))) from(fun _=>(B0 (3:Int) (1:Int) x15.2.2 x15.2.1 x18 hx18))) (ci (show(true=true→(true==true)=true) from(fun _=>rfl)) (ci (show(AVle (.bool x18.1) (.bool false)) from(Cs hs20)) (ci (show((false==true)=true→(false==true)=true) from Db) (ci (show((false==true)=true→(Spec Try.prog 16 [.any,Ti,(.int .i64 (2:Int))] [] (.bool false) [])) from Db) (ci (show((false==true)=true→(false==true)=true) from Db) (c1 (show(false=true→(false==true)=true) from Db))))))))))))))))))))))))))))))))))))))))) ?_;obtain rfl:=OI h;exact Hi []
    ·refine gR hq [0] [] [(73,(.bool true)),(79,(.bool false))] [(Vt (Um x15) (Uj x15)),Z8,Z8] (ci (gI (Th x3)) (ci (gI (Th x3)) (ci (G0 (x3.1==0)) (ci (gI (P4 x3 x9)) (ci hc11 (ci (gI (P4 x3 x9)) (ci (gI (P4 x3 x9)) (ci (G0 (Qa x3 x9)) (ci (gI (P3 x3 x9)) (ci hc12 (ci (gI (P3 x3 x9)) (ci (gI (P3 x3 x9)) (ci (G0 (bif (Qa x3 x9) then(Un x9) else false)) (ci (gI ((N9 x3 x9)==true)) (ci (G0 (N9 x3 x9)) (ci (gI (Tg x3 x9 x5)) (ci (gI (Tg x3 x9 x5)) (ci (G0 (bif (N9 x3 x9) then(Ul x5) else false)) (ci (gI ((L1 x3 x9 x5)==true)) (ci hc13 (ci (gI ((L1 x3 x9 x5)==true)) (ci (gI ((L1 x3 x9 x5)==true)) (ci (G0 (L1 x3 x9 x5)) (ci (gI ((P5 x3 x9 x5)==true)) (ci (G0 (P5 x3 x9 x5)) (ci (show(AVle (.bool (bif (P5 x3 x9 x5) then(x7.2.1==8) else false)) (.bool true)) from(Cs hs14)) (ci (show((true==true)=true→(true==true)=true) from(fun _=>rfl)) (ci (show((true==true)=true→(Spec Try.prog 21 [(.ptr 30000 0)] (Vr x9) (Um x15) (Uj x15))) from(fun _=>(B1 x9.2.2 x9.2.1 x15 hx15))) (ci (show((true==true)=true→(true==true)=true) from(fun _=>rfl)) (ci (show((true==true)=true→(true==true)=true) from(fun _=>rfl)) (ci (show(true=true→(true==true)=true) from(fun _=>rfl)) (ci (show(AVle (.bool (((x15.1.length:Int):Int)==6)) (.bool false)) from(Cs hs17)) (ci (show((false==true)=true→(false==true)=true) from Db) (ci (show((false==true)=true→(Spec Try.prog 16 [.any,Ti,(.int .i64 (1:Int))] [] (.bool false) [])) from Db) (ci (show(false=true→(false==true)=true) from Db) (ci (show((false==true)=true→(false==true)=true) from Db) (ci (show((false==true)=true→(Spec Try.prog 16 [.any,Ti,(.int .i64 (2:Int))] [] (.bool false) [])) from Db) (ci (show((false==true)=true→(false==true)=true) from Db) (c1 (show(false=true→(false==true)=true) from Db)))))))))))))))))))))))))))))))))))))))) ?_;obtain rfl:=OI h;exact Hi []
   ·refine gR hq [0] [] [(73,(.bool false))] [⟨[],[],Vx,[],[]⟩,Z8,Z8] (ci (gI (Th x3)) (ci (gI (Th x3)) (ci (G0 (x3.1==0)) (ci (gI (P4 x3 x9)) (ci hc11 (ci (gI (P4 x3 x9)) (ci (gI (P4 x3 x9)) (ci (G0 (Qa x3 x9)) (ci (gI (P3 x3 x9)) (ci hc12 (ci (gI (P3 x3 x9)) (ci (gI (P3 x3 x9)) (ci (G0 (bif (Qa x3 x9) then(Un x9) else false)) (ci (gI ((N9 x3 x9)==true)) (ci (G0 (N9 x3 x9)) (ci (gI (Tg x3 x9 x5)) (ci (gI (Tg x3 x9 x5)) (ci (G0 (bif (N9 x3 x9) then(Ul x5) else false)) (ci (gI ((L1 x3 x9 x5)==true)) (ci hc13 (ci (gI ((L1 x3 x9 x5)==true)) (ci (gI ((L1 x3 x9 x5)==true)) (ci (G0 (L1 x3 x9 x5)) (ci (gI ((P5 x3 x9 x5)==true)) (ci (G0 (P5 x3 x9 x5)) (ci (show(AVle (.bool (bif (P5 x3 x9 x5) then(x7.2.1==8) else false)) (.bool false)) from(Cs hs14)) (ci (show((false==true)=true→(false==true)=true) from Db) (ci (show((false==true)=true→(Spec Try.prog 21 [.any] [] Vx [])) from Db) (ci (show((false==true)=true→(false==true)=true) from Db) (ci (show((false==true)=true→(false==true)=true) from Db) (ci (show(false=true→(false==true)=true) from Db) (ci (show((false==true)=true→(false==true)=true) from Db) (ci (show((false==true)=true→(Spec Try.prog 16 [.any,Ti,(.int .i64 (1:Int))] [] (.bool false) [])) from Db) (ci (show(false=true→(false==true)=true) from Db) (ci (show((false==true)=true→(false==true)=true) from Db) (ci (show((false==true)=true→(Spec Try.prog 16 [.any,Ti,(.int .i64 (2:Int))] [] (.bool false) [])) from Db) (ci (show((false==true)=true→(false==true)=true) from Db) (c1 (show(false=true→(false==true)=true) from Db))))))))))))))))))))))))))))))))))))))) ?_;obtain rfl:=OI h;exact Hi []
 ·refine gR hq [1,2] [] [(10,(AV.list 1 eU8 0 R5 .exact))] [⟨[],[],(.tuple [(bif false then((.ptr 20000 0):AV) else .nilp),(Fo x1.2)]),(bif false then(Uk x1) else[]),[]⟩] (ci (Gu 1 eU8 (0:Int) R5) (c1 (show(Spec Try.prog 10 [(AV.list 1 eU8 0 R5 .none)] [] (.tuple [(bif false then((.ptr 20000 0):AV) else .nilp),(Fo x1.2)]) (bif false then(Uk x1) else[])) from(Tl (fun b_:Bool=>Spec Try.prog 10 [(AV.list 1 eU8 0 R5 .none)] [] (.tuple [(bif b_ then((.ptr 20000 0):AV) else .nilp),(Fo x1.2)]) (bif b_ then(Uk x1) else[])) hs2 (Cf R5 x1 hx1))))) ?_;refine gR hq [1,19] [] [] [] (ci (show((true==false)=true→(true==false)=true) from Db) (c1 (show(true=false→(true==false)=true) from Up))) ?_;refine Sk true ?_;refine Ch hq [0] [] ?_;obtain rfl:=OI h;exact Hi []
def Ay(a9:List Aa)(a2:List Aa):Int→Option (LR Int (Unit ⊕ Bool)):=
 fun(i1:Int)=>(bif (decide (i1<(a9.length:Int))) then(D1 (Gg i1 a9.length) (D1 (Gg i1 a2.length) (bif (!(((a9.getD i1.toNat default).Write==(a2.getD i1.toNat default).Write)&&((((a9.getD i1.toNat default).At:Int)==(a2.getD i1.toNat default).At)&&((((a9.getD i1.toNat default).Byte:Int)==(a2.getD i1.toNat default).Byte)&&true)))) then(some (.done (.inr false))) else(some (.next (Iq (i1+1))))))) else(some (.done (.inl ()))))
def Ed(Γ:Cx)(a9:List Aa)(a2:List Aa)(r:Bool):Exit→St→Prop:=fK Try.prog Γ Try.f20.results.toList [] (.bool r) []
def A6(a9:List Aa)(a2:List Aa):Option Bool:=
 (bif (((a9.length:Int):Int)!=(a2.length:Int)) then(some false) else((Cl (Ay a9 a2) (0:Int)).bind (fun x4=>(match x4 with|(.inl _)=>(some true)|(.inr r6)=>(some r6)))))
theorem Ea(a9:List Aa)(a2:List Aa)(r:Bool)(h:A6 a9 a2=some r):Spec Try.prog 20 [(AV.list 3 Ag default a9 .none),(AV.list 3 Ag default a2 .none)] [] (.bool r) []:=by
 refine Bg mix Try.func20 (fun Γ hq=>?_);unfold A6 at h;refine Ch hq [0,1] [] ?_;refine Ch hq [0,1,10] [] ?_;refine gC h (fun h=>?_) (fun h=>?_)
 ·refine Ch hq [4] [] ?_;obtain rfl:=OI h;exact Hi []
 ·refine Ch hq [0,1,5] [] ?_;obtain⟨x4,hx4,h⟩:=bind_some h;refine gL hq hx4 [0,1,5] [] (fun u i1=>(R7 u [(5,(Fo i1))] [])) (fun u x_=>match x_ with|(.inl _)=>aG Γ (.exit 0) (⟨[],[],[]⟩:St)|(.inr r_)=>aR (Ed Γ a9 a2 r_)) ?_ ?_
  ·intro i1 y h;unfold Ay at h;refine Ch hq [0,1,5,14] [] ?_;refine gC h (fun h=>?_) (fun h=>?_)
   ·obtain⟨hc2,h⟩:=Ai h;obtain⟨hc3,h⟩:=Ai h;refine gR hq [0,1,5,25] [] [] [] (ci hc2 (c1 hc3)) ?_;refine gC h (fun h=>?_) (fun h=>?_)
    ·refine Ch hq [4] [] ?_;cases h;exact gO (Tw (Pg [] (Le.refl _ _)))
    ·refine Ch hq [0,1,5] [] ?_;cases h;exact gN Sr
   ·cases h;exact gO (P6 (J3 [] [] hq))
  ·clear hx4;rcases x4 with _|r6
   ·refine gA ?_;refine Ch hq [4] [] ?_;obtain rfl:=OI h;exact Hi []
   ·refine V2 (fun st' hk=>?_);obtain rfl:=OI h;exact gK hk
def Ar(aB:Int)(a6:List Int):(Int×Int×List Aa×List Int)→Option (LR (Int×Int×List Aa×List Int) (Int×List Aa×List Int)):=
 fun((i8,i9,l10,l11):(Int×Int×List Aa×List Int))=>(bif (bif (decide (i9<(a6.length:Int))) then(i8==0) else false) then(D1 (0≤i9∧i9≤(Iq (i9+1))∧(Iq (i9+1))≤(a6.length:Int)) ((Bj (Dm ((Dm aB)+(Dm (Iq ((2:Int)*i9))))) (16:Int) ((a6.take (Iq (i9+1)).toNat).drop i9.toNat) l11 l10).bind fun x16=>(D1 (l11.length=x16.2.2.length) (some (.next (x16.1,(Iq (i9+1)),x16.2.1,x16.2.2)))))) else(some (.done (i8,l10,l11))))
def Bd:=(false==false)
def L0:=((.ptr 20000 0):AV)
def O6:=(bif true then L0 else .nilp)
def O5:=(bif false then L0 else .nilp)
def Ie(a2:List Int):List AV:=[(AV.list 1 eU8 0 a2 .none)]
def Sb:AV:=(AV.list 1 eU8 0 ([]:List Int) .none)
def Id:AV:=Vx
def Uv(l14:List Int)(l13:List Aa):List (Nat×Own):=(Z1 l14 l13 l13.length)
def Tt(x6:(Int×List Aa×List Int)):List (Nat×Own):=(Z1 x6.2.2 x6.2.1 x6.2.1.length)
def O3(x2:((Bool×Hs)×Int)):List (Nat×Own):=(Z2 20000 21000 x2.1.2.bytes x2.1.2.trace 21001 x2.1.2.trace.length)
def O4(x4:((Bool×Hs)×Int)):List (Nat×Own):=(Z2 20000 21000 x4.1.2.bytes x4.1.2.trace 21001 x4.1.2.trace.length)
def O2(x35:((Bool×Hs)×Int)):List (Nat×Own):=(Z2 20000 21000 x35.1.2.bytes x35.1.2.trace 21001 x35.1.2.trace.length)
def R9(x21:(List Int×List Aa×List Int)):List (Nat×Own):=[(Z4 x21.2.2.length x21.2.1),(37001,.tok 3 49 x21.2.1.length),(Z6 35000 x21.2.2),(20000,.tok 1 5 x21.1.length)]
def Sa(x24:(List Int×List Aa×List Int)):List (Nat×Own):=[(Z4 x24.2.2.length x24.2.1),(37001,.tok 3 49 x24.2.1.length),(Z6 35000 x24.2.2),(20000,.tok 1 5 x24.1.length)]
def Ut(x28:(List Aa×List Aa×List Int)):List (Nat×Own):=(Z3 x28.2.2 x28.2.1 x28.2.1.length x28.1.length)
def Uu(x30:(List Aa×List Aa×List Int)):List (Nat×Own):=(Z3 x30.2.2 x30.2.1 x30.2.1.length x30.1.length)
def Bf(a2:List Int)(aB:Int)(a6:List Int):Option Bool:=
 (m_locksteplaw12_awake.bind fun x1=>(bif (!x1) then(some false) else(bif (bif (decide (((200:Int):Int)<(a2.length:Int))) then true else(decide (((16:Int):Int)<(a6.length:Int)))) then(some true) else((Cr a2).bind fun x2=>(bif x2.1.1 then((Cr a2).bind fun x4=>(bif x4.1.1 then((Bj (Dm aB) (16:Int) a6 x2.1.2.bytes x2.1.2.trace).bind fun x6=>(D1 (x2.1.2.bytes.length=x6.2.2.length) ((Cl (Ar aB a6) ((0:Int),(0:Int),x4.1.2.trace,x4.1.2.bytes)).bind (fun(i12,l13,l14)=>(bif (x6.1 !=i12) then(some false) else((Bh x6.2.2 x6.2.1).bind fun x21=>(D1 (x6.2.2.length=x21.2.2.length) (D1 (Ec x21.1.length (fun i=>eU8 (x21.1.getD i 0))) ((Bh l14 l13).bind fun x24=>(D1 (l14.length=x24.2.2.length) (D1 (Ec x24.1.length (fun i=>eU8 (x24.1.getD i 0))) (bif (!(((D8 x21.1.length (fun i=>eU8 (x21.1.getD i 0))):List Int)==(D8 x24.1.length (fun i=>eU8 (x24.1.getD i 0))))) then(some false) else((Bi x21.2.2 x21.2.1).bind fun x28=>(D1 (x21.2.2.length=x28.2.2.length) ((Bi x24.2.2 x24.2.1).bind fun x30=>(D1 (x24.2.2.length=x30.2.2.length) ((A6 x28.1 x30.1).bind fun x32=>(bif (!x32) then(some false) else((Bp (Dm aB) (16:Int) (a6.length:Int) x28.2.2 x28.2.1).bind fun x33=>(D1 (x28.2.2.length=x33.2.2.2.length) (bif (x33.2.1 !=x6.1) then(some false) else(some (bif (x33.2.1 !=0) then true else(((x33.1.length:Int):Int)==(a6.length:Int))))))))))))))))))))))))) else(some false))) else((Cr a2).bind fun x35=>(bif x35.1.1 then(some false) else(some false))))))))
theorem ok_locksteplaw12_MemMany(a2:List Int)(aB:Int)(a6:List Int)(r:Bool)(h:Bf a2 aB a6=some r):Spec Try.prog 7 [(AV.list 1 eU8 0 a2 .none),(.int .u8 aB),(AV.list 1 eU64 0 a6 .none)] [] (.bool r) []:=by
 refine Bg mix Try.func7 (fun Γ hq=>?_);unfold Bf at h;refine Ch hq [0,1,2] [] ?_;obtain⟨x1,hx1,h⟩:=bind_some h;refine gR hq [0,1,2,17] [] [] [⟨[],[],(.bool x1),[],[]⟩] (c1 (Es  x1 hx1)) ?_;refine gC h (fun h=>?_) (fun h=>?_)
 ·refine Ch hq [6] [] ?_;obtain rfl:=OI h;exact Hi []
 ·refine gR hq [0,1,2,25] [] [] [] (ci (gI ((decide (((200:Int):Int)<(a2.length:Int)))==false)) (ci (gI ((decide (((200:Int):Int)<(a2.length:Int)))==false)) (c1 (T4 (decide (((200:Int):Int)<(a2.length:Int))))))) ?_;refine gC h (fun h=>?_) (fun h=>?_)
  ·refine Ch hq [6] [] ?_;obtain rfl:=OI h;exact Hi []
  ·obtain⟨x2,hx2,h⟩:=bind_some h;refine gB h (fun hs3 h=>?_) (fun hs3 h=>?_)
   ·refine gR hq [0,1,2,7] [28,60028000,60028001] [] [(Z9 28 60028000 60028001 O6 x2.2 (O3 x2))] (c1 (show(Spec Try.prog 10 (Ie a2) [] (.tuple [O6,(Fo x2.2)]) (bif true then(O3 x2) else[])) from(Tl (fun b_:Bool=>Spec Try.prog 10 (Ie a2) [] (.tuple [(bif b_ then L0 else .nilp),(Fo x2.2)]) (bif b_ then(O3 x2) else[])) hs3 (Cf a2 x2 hx2)))) ?_;obtain⟨x4,hx4,h⟩:=bind_some h;refine gB h (fun hs5 h=>?_) (fun hs5 h=>?_)
    ·refine gR hq [1,2,7,9] [28,33,60028000,60028001,60033000,60033001] [] [(Z9 33 60033000 60033001 O6 x4.2 (O4 x4))] (c1 (show(Spec Try.prog 10 (Ie a2) [] (.tuple [O6,(Fo x4.2)]) (bif true then(O4 x4) else[])) from(Tl (fun b_:Bool=>Spec Try.prog 10 (Ie a2) [] (.tuple [(bif b_ then L0 else .nilp),(Fo x4.2)]) (bif b_ then(O4 x4) else[])) hs5 (Cf a2 x4 hx4)))) ?_;refine gR hq [1,2,7,9,41] [28,33,60028000,60028001,60033000,60033001] [] [] (ci (show(Bd=true→Bd=true) from(fun _=>rfl)) (c1 (show(false=false→Bd=true) from(fun _=>rfl)))) ?_;refine Sk false ?_;obtain⟨x6,hx6,h⟩:=bind_some h;obtain⟨hc7,h⟩:=Ai h;refine gR hq [1,2,7,9,11] [28,33,60028000,60028001,60033000,60033001] [] [⟨[(28,30000),(60028001,37001),(60028000,35000)],[],(Fo x6.1),(Tt x6),[]⟩] (c1 (C1 (Dm aB) (16:Int) a6 x2.1.2.bytes x2.1.2.trace x6 hx6)) ?_;refine Ch hq [1,2,7,9,11,12] [28,33,60028000,60028001,60033000,60033001] ?_;refine Ch hq [1,2,7,9,11,12,13] [28,33,60028000,60028001,60033000,60033001] ?_;obtain⟨x18,hx18,h⟩:=bind_some h;refine gL hq hx18 [1,2,7,9,11,12,13] [28,33,60028000,60028001,60033000,60033001] (fun u (i8,i9,l10,l11)=>(R7 u [(12,(Fo i8)),(13,(Fo i9))] (Z2 33 60033000 l11 l10 60033001 l10.length))) (fun u (i12,l13,l14)=>aG Γ (.exit 0) (Wj [1,2,7,9,11,12] [28,33,60028000,60028001,60033000,60033001] u [(12,(Fo i12))] (Z2 33 60033000 l14 l13 60033001 l13.length))) ?_ ?_
     ·rintro⟨i8,i9,l10,l11⟩ y h;unfold Ar at h;refine gR hq [1,2,7,9,11,12,13,54] [28,33,60028000,60028001,60033000,60033001] [] [] (ci (gI ((decide (i9<(a6.length:Int)))==true)) (c1 (G0 (decide (i9<(a6.length:Int)))))) ?_;refine gC h (fun h=>?_) (fun h=>?_)
      ·obtain⟨hc15,h⟩:=Ai h;obtain⟨x16,hx16,h⟩:=bind_some h;obtain⟨hc17,h⟩:=Ai h;refine gR hq [1,2,7,9,11,12,13] [28,33,60028000,60028001,60033000,60033001] [(68,(AV.list 1 eU64 0 ((a6.take (Iq (i9+1)).toNat).drop i9.toNat) .none))] [⟨[(33,30000),(60033001,37001),(60033000,35000)],[],(Fo x16.1),(Z1 x16.2.2 x16.2.1 x16.2.1.length),[]⟩] (ci hc15 (ci (show(AVle (.slice 1 ((Iq (i9+1)).toNat-i9.toNat) (fun i=>eU64 (a6.getD (i9.toNat+i) 0)) .none) (AV.list 1 eU64 0 ((a6.take (Iq (i9+1)).toNat).drop i9.toNat) .none)) from(Tz (Pz hc15))) (c1 (C1 (Dm ((Dm aB)+(Dm (Iq ((2:Int)*i9))))) (16:Int) ((a6.take (Iq (i9+1)).toNat).drop i9.toNat) l11 l10 x16 hx16)))) ?_;refine Ch hq [1,2,7,9,11,12,13] [28,33,60028000,60028001,60033000,60033001] ?_;cases h;exact gN Sr
      ·cases h;exact gO (P6 (J3 [1,2,7,9,11,12] [28,33,60028000,60028001,60033000,60033001] hq))
     ·clear hx18;rcases x18 with⟨i12,l13,l14⟩;refine gA ?_;refine gB h (fun hs20 h=>?_) (fun hs20 h=>?_)
      ·refine gR hq [1,2,7,11,89] [28,60028000,60028001] [(73,(.bool true))] [⟨[],[],Sb,[],[]⟩,⟨[],[],Sb,[],[]⟩,⟨[],[],Id,[],[]⟩,⟨[],[],Id,[],[]⟩,Z8] (ci (show(AVle (.bool (x6.1 !=i12)) (.bool true)) from(Cs hs20)) (ci (show((true==false)=true→(true==false)=true) from Db) (ci (show((true==false)=true→(Spec Try.prog 19 [.any] [] Sb [])) from Db) (ci (show((true==false)=true→(true==false)=true) from Db) (ci (show((true==false)=true→(Ec ([]:List Int).length (fun i=>eU8 (([]:List Int).getD i 0)))) from Db) (ci (show((true==false)=true→(true==false)=true) from Db) (ci (show((true==false)=true→(Spec Try.prog 19 [.any] [] Sb [])) from Db) (ci (show((true==false)=true→(true==false)=true) from Db) (ci (show((true==false)=true→(Ec ([]:List Int).length (fun i=>eU8 (([]:List Int).getD i 0)))) from Db) (ci (show((true==false)=true→(true==false)=true) from Db) (ci (show((true==false)=true→(true==false)=true) from Db) (ci (show(true=false→(true==false)=true) from Up) (ci (show((true==false)=true→(true==false)=true) from Db) (ci (show((true==false)=true→(Spec Try.prog 21 [.any] [] Id [])) from Db) (ci (show((true==false)=true→(true==false)=true) from Db) (ci (show((true==false)=true→(Spec Try.prog 21 [.any] [] Id [])) from Db) (ci (show((true==false)=true→(true==false)=true) from Db) (ci (show((true==false)=true→(true==false)=true) from Db) (ci (show((true==false)=true→(Spec Try.prog 20 [Id,Id] [] (.bool false) [])) from Db) (ci (show((true==false)=true→(true==false)=true) from Db) (c1 (show(true=false→(true==false)=true) from Up)))))))))))))))))))))) ?_;refine Sk true ?_;refine Ch hq [6] [] ?_;obtain rfl:=OI h;exact Hi []
      ·obtain⟨x21,hx21,h⟩:=bind_some h;obtain⟨hc22,h⟩:=Ai h;obtain⟨hc23,h⟩:=Ai h;obtain⟨x24,hx24,h⟩:=bind_some h;obtain⟨hc25,h⟩:=Ai h;obtain⟨hc26,h⟩:=Ai h;refine gB h (fun hs27 h=>?_) (fun hs27 h=>?_)
       ·refine gR hq [1,2,7,11,89] [28,60028000,60028001] [(73,(.bool false)),(82,(.bool true))] [(Z5 28 60028001 60028000 75 x21.1 (R9 x21)),(Z5 33 60033001 60033000 78 x24.1 (Sa x24)),⟨[],[],Id,[],[]⟩,⟨[],[],Id,[],[]⟩,Z8] (ci (show(AVle (.bool (x6.1 !=i12)) (.bool false)) from(Cs hs20)) (ci (show(Bd=true→Bd=true) from(fun _=>rfl)) (ci (show(Bd=true→(Spec Try.prog 19 [(.ptr 30000 0)] (Tt x6) (Uz x21.1) (R9 x21))) from(fun _=>(Bz x6.2.2 x6.2.1 x21 hx21))) (ci (show(Bd=true→Bd=true) from(fun _=>rfl)) (ci (show(Bd=true→(Ec x21.1.length (fun i=>eU8 (x21.1.getD i 0)))) from(fun _=>hc23)) (ci (show(Bd=true→Bd=true) from(fun _=>rfl)) (ci (show(Bd=true→(Spec Try.prog 19 [(.ptr 30000 0)] (Uv l14 l13) (Uz x24.1) (Sa x24))) from(fun _=>(Bz l14 l13 x24 hx24))) (ci (show(Bd=true→Bd=true) from(fun _=>rfl)) (ci (show(Bd=true→(Ec x24.1.length (fun i=>eU8 (x24.1.getD i 0)))) from(fun _=>hc26)) (ci (show(Bd=true→Bd=true) from(fun _=>rfl)) (ci (show(Bd=true→Bd=true) from(fun _=>rfl)) (ci (show(false=false→Bd=true) from(fun _=>rfl)) (ci (show(AVle (We x21.1 x24.1) (.bool true)) from(Cs hs27)) (ci (show((true==false)=true→(true==false)=true) from Db) (ci (show((true==false)=true→(Spec Try.prog 21 [.any] [] Id [])) from Db) (ci (show((true==false)=true→(true==false)=true) from Db) (ci (show((true==false)=true→(Spec Try.prog 21 [.any] [] Id [])) from Db) (ci (show((true==false)=true→(true==false)=true) from Db) (ci (show((true==false)=true→(true==false)=true) from Db) (ci (show((true==false)=true→(Spec Try.prog 20 [Id,Id] [] (.bool false) [])) from Db) (ci (show((true==false)=true→(true==false)=true) from Db) (c1 (show(true=false→(true==false)=true) from Up))))))))))))))))))))))) ?_;refine Sk true ?_;refine Ch hq [6] [] ?_;obtain rfl:=OI h;exact Hi []
       ·obtain⟨x28,hx28,h⟩:=bind_some h;obtain⟨hc29,h⟩:=Ai h;obtain⟨x30,hx30,h⟩:=bind_some h;obtain⟨hc31,h⟩:=Ai h;obtain⟨x32,hx32,h⟩:=bind_some h;refine gR hq [1,2,7,11,89] [28,60028000,60028001] [(73,(.bool false)),(82,(.bool false))] [(Z5 28 60028001 60028000 75 x21.1 (R9 x21)),(Z5 33 60033001 60033000 78 x24.1 (Sa x24)),⟨[(28,30000),(60028001,37001),(60028000,35000)],[(20000,84)],(Z7 x28.1),(Ut x28),[]⟩,⟨[(33,30000),(60033001,37001),(60033000,35000)],[(20000,86)],(Z7 x30.1),(Uu x30),[]⟩,⟨[],[],(.bool x32),[],[]⟩] (ci (show(AVle (.bool (x6.1 !=i12)) (.bool false)) from(Cs hs20)) (ci (show(Bd=true→Bd=true) from(fun _=>rfl)) (ci (show(Bd=true→(Spec Try.prog 19 [(.ptr 30000 0)] (Tt x6) (Uz x21.1) (R9 x21))) from(fun _=>(Bz x6.2.2 x6.2.1 x21 hx21))) (ci (show(Bd=true→Bd=true) from(fun _=>rfl)) (ci (show(Bd=true→(Ec x21.1.length (fun i=>eU8 (x21.1.getD i 0)))) from(fun _=>hc23)) (ci (show(Bd=true→Bd=true) from(fun _=>rfl)) (ci (show(Bd=true→(Spec Try.prog 19 [(.ptr 30000 0)] (Uv l14 l13) (Uz x24.1) (Sa x24))) from(fun _=>(Bz l14 l13 x24 hx24))) (ci (show(Bd=true→Bd=true) from(fun _=>rfl)) (ci (show(Bd=true→(Ec x24.1.length (fun i=>eU8 (x24.1.getD i 0)))) from(fun _=>hc26)) (ci (show(Bd=true→Bd=true) from(fun _=>rfl)) (ci (show(Bd=true→Bd=true) from(fun _=>rfl)) (ci (show(false=false→Bd=true) from(fun _=>rfl)) (ci (show(AVle (We x21.1 x24.1) (.bool false)) from(Cs hs27)) (ci (show(Bd=true→Bd=true) from(fun _=>rfl)) (ci (show(Bd=true→(Spec Try.prog 21 [(.ptr 30000 0)] (Z1 x21.2.2 x21.2.1 x21.2.1.length) (Z7 x28.1) (Ut x28))) from(fun _=>(B1 x21.2.2 x21.2.1 x28 hx28))) (ci (show(Bd=true→Bd=true) from(fun _=>rfl)) (ci (show(Bd=true→(Spec Try.prog 21 [(.ptr 30000 0)] (Z1 x24.2.2 x24.2.1 x24.2.1.length) (Z7 x30.1) (Uu x30))) from(fun _=>(B1 x24.2.2 x24.2.1 x30 hx30))) (ci (show(Bd=true→Bd=true) from(fun _=>rfl)) (ci (show(Bd=true→Bd=true) from(fun _=>rfl)) (ci (show(Bd=true→(Spec Try.prog 20 [(AV.list 3 Ag default x28.1 .none),(AV.list 3 Ag default x30.1 .none)] [] (.bool x32) [])) from(fun _=>(Ea x28.1 x30.1 x32 hx32))) (ci (show(Bd=true→Bd=true) from(fun _=>rfl)) (c1 (show(false=false→Bd=true) from(fun _=>rfl)))))))))))))))))))))))) ?_;refine gC h (fun h=>?_) (fun h=>?_)
        ·refine Ch hq [6] [] ?_;obtain rfl:=OI h;exact Hi []
        ·obtain⟨x33,hx33,h⟩:=bind_some h;obtain⟨hc34,h⟩:=Ai h;refine gR hq [2,11,14,15] [96] [] [(Vs 28 60028001 60028000 96 x33.1 x33.2.1 x33.2.2.2.length x33.2.2.1 x33.2.2.1.length x33.2.2.2 x33.1.length)] (c1 (De (Dm aB) (16:Int) (a6.length:Int) x28.2.2 x28.2.1 x33 hx33)) ?_;refine Ch hq [2,14,15,101] [96] ?_;refine gC h (fun h=>?_) (fun h=>?_)
         ·refine Ch hq [6] [] ?_;obtain rfl:=OI h;exact Hi []
         ·refine gR hq [6] [] [] [] (ci (gI ((x33.2.1 !=0)==false)) (ci (gI ((x33.2.1 !=0)==false)) (ci (gI ((x33.2.1 !=0)==false)) (ci (gI ((x33.2.1 !=0)==false)) (c1 (T4 (x33.2.1 !=0))))))) ?_;cases h;exact Hi []
    ·refine gR hq [1,2,7,9] [28,60028000,60028001] [] [(Vu O5 x4.2 (O4 x4))] (c1 (show(Spec Try.prog 10 (Ie a2) [] (.tuple [O5,(Fo x4.2)]) (bif false then(O4 x4) else[])) from(Tl (fun b_:Bool=>Spec Try.prog 10 (Ie a2) [] (.tuple [(bif b_ then L0 else .nilp),(Fo x4.2)]) (bif b_ then(O4 x4) else[])) hs5 (Cf a2 x4 hx4)))) ?_;refine gR hq [1,2,7,9,41] [28,60028000,60028001] [] [] (ci (show(Bd=true→Bd=true) from(fun _=>rfl)) (c1 (show(false=false→Bd=true) from(fun _=>rfl)))) ?_;refine Sk true ?_;refine Ch hq [6] [] ?_;obtain rfl:=OI h;exact Hi []
   ·refine gR hq [0,1,2,7] [] [] [(Vu O5 x2.2 (O3 x2))] (c1 (show(Spec Try.prog 10 (Ie a2) [] (.tuple [O5,(Fo x2.2)]) (bif false then(O3 x2) else[])) from(Tl (fun b_:Bool=>Spec Try.prog 10 (Ie a2) [] (.tuple [(bif b_ then L0 else .nilp),(Fo x2.2)]) (bif b_ then(O3 x2) else[])) hs3 (Cf a2 x2 hx2)))) ?_;obtain⟨x35,hx35,h⟩:=bind_some h;refine gB h (fun hs36 h=>?_) (fun hs36 h=>?_)
    ·refine gR hq [1,2,7,9] [33,60033000,60033001] [] [(Z9 33 60033000 60033001 O6 x35.2 (O2 x35))] (c1 (show(Spec Try.prog 10 (Ie a2) [] (.tuple [O6,(Fo x35.2)]) (bif true then(O2 x35) else[])) from(Tl (fun b_:Bool=>Spec Try.prog 10 (Ie a2) [] (.tuple [(bif b_ then L0 else .nilp),(Fo x35.2)]) (bif b_ then(O2 x35) else[])) hs36 (Cf a2 x35 hx35)))) ?_;refine gR hq [1,2,7,9,41] [33,60033000,60033001] [] [] (ci (show((true==false)=true→(true==false)=true) from Db) (c1 (show(true=false→(true==false)=true) from Up))) ?_;refine Sk true ?_;refine Ch hq [6] [] ?_;obtain rfl:=OI h;exact Hi []
    ·refine gR hq [1,2,7,9] [] [] [(Vu O5 x35.2 (O2 x35))] (c1 (show(Spec Try.prog 10 (Ie a2) [] (.tuple [O5,(Fo x35.2)]) (bif false then(O2 x35) else[])) from(Tl (fun b_:Bool=>Spec Try.prog 10 (Ie a2) [] (.tuple [(bif b_ then L0 else .nilp),(Fo x35.2)]) (bif b_ then(O2 x35) else[])) hs36 (Cf a2 x35 hx35)))) ?_;refine gR hq [1,2,7,9,41] [] [] [] (ci (show((true==false)=true→(true==false)=true) from Db) (c1 (show(true=false→(true==false)=true) from Up))) ?_;refine Sk true ?_;refine Ch hq [6] [] ?_;obtain rfl:=OI h;exact Hi []
theorem J2{n:Int}(h:-9223372036854775808≤n)(h':n<9223372036854775808):Iq n=n:=by
 show IntKind.i64.wrap n=n
 simp only[IntKind.wrap,IntKind.bits,IntKind.signed]
 simp
 split<;>omega
theorem Cw{n:Int}(h:0≤n)(h':n<18446744073709551616):Dm n=n:=by
 show IntKind.u64.wrap n=n
 simp[IntKind.wrap,IntKind.bits,IntKind.signed];omega
theorem Td(n:Int):Tc n=n % 256:=by
 show IntKind.u8.wrap n=_
 simp[IntKind.wrap,IntKind.bits,IntKind.signed]
theorem Kz(w n:Nat)(h:n<2 ^ w):(BitVec.ofInt w (n:Int)).toNat=n:=by
 rw[BitVec.toNat_ofInt,← Int.natCast_emod,Int.toNat_natCast,Nat.mod_eq_of_lt h]
theorem M6(k:IntKind)(hk:k.signed=false){n:Nat}(h:n<2 ^ k.bits):k.wrap (n:Int)=n:=by
 simp only[IntKind.wrap,hk,Bool.false_and,Bool.false_eq_true,if_false]
 have:((2:Int) ^ k.bits)=((2 ^ k.bits:Nat):Int):=by simp
 rw[this,← Int.natCast_emod,Nat.mod_eq_of_lt h]
theorem Si(k:IntKind)(hk:k.signed=false){a b:Nat}(ha:a<2 ^ k.bits)(hb:b<2 ^ k.bits):Ex .or k a b=((a ||| b:Nat):Int):=by
 simp only[Ex,BitVec.toNat_or,Kz _ _ ha,Kz _ _ hb];exact M6 k hk (Nat.or_lt_two_pow ha hb)
theorem Ue(k:IntKind)(hk:k.signed=false)(j:Nat){a b:Nat}(ha:a<2 ^ j)(hb:a+b*2 ^ j<2 ^ k.bits){y:Int}(hy:y=((b*2 ^ j:Nat):Int)):Ex .or k a y=((a+b*2 ^ j:Nat):Int):=by
 subst hy;rw[Si k hk (by omega) (by omega),Nat.or_comm,Nat.mul_comm b,← Nat.two_pow_add_eq_or_of_lt ha,Nat.add_comm]
theorem Rb{x:Int}(j:Nat):x.fdiv (2 ^ j)=x / 2 ^ j:=by rw[Int.fdiv_eq_ediv_of_nonneg _ (by exact Int.le_of_lt (Int.pow_pos (by decide)))]
theorem B8{α:Type}(l:List α)(i:Nat)(d:α)(h:i<l.length):l.getD i d=l[i]:=by simp[List.getD,h]
theorem Jz{α:Type}(l:List α)(i:Nat)(d:α)(h:i<l.length):l.take (i+1)=l.take i++[l.getD i d]:=by
 rw[List.take_add_one,B8 _ _ _ h];simp[h]
theorem Qx{l:List Int}{f:Nat→List AV}(h:∀ i,f i=[.int .u8 (l.getD i 0)])(hl:∀ x∈l,0≤x∧x<256):Ec l.length f:=fun i hi=>by
 rw[h i];refine⟨rfl,?_⟩;simp only[AV.num];rw[B8 _ _ _ hi];exact hl _ (List.getElem_mem hi)
theorem Rd{α:Type}{l:List α}{i:Nat}{d:α}(h:i<l.length):l.getD i d∈l:=by rw[B8 _ _ _ h];exact List.getElem_mem h
theorem So{i n:Nat}(h:i<n):Gg (i:Int) n:=⟨by omega,by exact_mod_cast h⟩
theorem Ri{S X:Type}(f:S→Option (LR S X))(T:Nat→S)(x:X):∀(n:Nat),(∀ i,i<n→f (T i)=some (.next (T (i+1))))→f (T n)=some (.done x)→Cl f (T 0)=some x:=by
 suffices h:∀(k i n:Nat),i+k=n→(∀ j,i≤j→j<n→f (T j)=some (.next (T (j+1))))→f (T n)=some (.done x)→Cl f (T i)=some x from
  fun n h1 h2=>h n 0 n (by omega) (fun j _ hj=>h1 j hj) h2
 intro k
 induction k with
 | zero=>
  intro i n hi _ h2
  have hin:n=i:=by omega
  subst hin;exact Bo h2
 | succ k ih=>intro i n hi h1 h2;rw[C0 (h1 i (Nat.le_refl _) (by omega))];exact ih (i+1) n (by omega) (fun j hj hj'=>h1 j (by omega) hj') h2
theorem Bs(i:Nat):((i:Int)).toNat=i:=Int.toNat_natCast i
theorem w1{i:Nat}(h:i<4611686018427387904):Iq ((i:Int)+1)=((i+1:Nat):Int):=by rw[J2 (by omega) (by omega)];omega
theorem Hv{i n:Nat}(h:i<n):decide (((i:Nat):Int)<((n:Nat):Int))=true:=by simpa using h
theorem Kn{n:Nat}:decide (((n:Nat):Int)<((n:Nat):Int))=false:=by simp
theorem T6{i n:Nat}(h:i<n):Gg ((i:Nat):Int) n:=So h
def F4(B:List Int):Prop:=∀ x∈B,0≤x∧x<256
def Ki:Nat→Int→List Int
 | 0,_=>[]
 | s+1,v=>v % 256::Ki s (v / 256)
def Sv:List Int→Int
 | []=>0
 | b::l=>b+256*Sv l
def M7(w:Bool):Nat→List Int→List Aa
 | _,[]=>[]
 | a,b::l=>⟨w,(a:Int),b⟩::M7 w (a+1) l
def Gp:List Int→Nat→List Int→List Int
 | B,_,[]=>B
 | B,a,b::l=>Gp (B.set a b) (a+1) l
def Fk(B:List Int)(a s:Nat):List Int:=(B.drop a).take s
theorem Lf(s:Nat)(v:Int):(Ki s v).length=s:=by induction s generalizing v with|zero=>rfl|succ s ih=>simp[Ki,ih]
theorem T1(s:Nat)(v:Int):F4 (Ki s v):=by
 induction s generalizing v with
 | zero=>intro x hx;cases hx
 | succ s ih=>
  intro x hx;rcases List.mem_cons.1 hx with rfl|hx
  ·omega
  ·exact ih _ x hx
theorem Hc(w:Bool)(a:Nat)(l:List Int):(M7 w a l).length=l.length:=by induction l generalizing a with|nil=>rfl|cons b l ih=>simp[M7,ih]
theorem Fd(B:List Int)(a:Nat)(l:List Int):(Gp B a l).length=B.length:=by induction l generalizing B a with|nil=>rfl|cons b l ih=>simp[Gp,ih]
theorem S2{B:List Int}{a:Nat}{l:List Int}(hB:F4 B)(hl:F4 l):F4 (Gp B a l):=by
 induction l generalizing B a with
 | nil=>exact hB
 | cons b l ih=>
  refine ih (fun x hx=>?_) fun x hx=>hl x (List.mem_cons_of_mem _ hx);rcases List.mem_or_eq_of_mem_set hx with h|h
  ·exact hB x h
  ·rw[h];exact hl b (List.mem_cons_self ..)
theorem M5{B:List Int}{a s:Nat}(h:a+s≤B.length):(Fk B a s).length=s:=by simp[Fk];omega
theorem Py(B:List Int)(a:Nat):Fk B a 0=[]:=by simp[Fk]
theorem Px{B:List Int}{a s:Nat}(h:a<B.length):Fk B a (s+1)=B.getD a 0::Fk B (a+1) s:=by
 unfold Fk;rw[List.drop_eq_getElem_cons h,List.take_succ_cons,B8 _ _ _ h]
theorem Sl{B:List Int}(hB:F4 B)(i:Nat):0≤B.getD i 0∧B.getD i 0<256:=by
 by_cases h:i<B.length
 ·exact hB _ (Rd h)
 ·simp[List.getD,h]
theorem Ru(n:Nat):(0:Int)<256 ^ n:=Int.pow_pos (by decide)
def Vn(N:Nat)(a n:Int):Bool:=decide (1≤n)&&decide (a+n≤N)
theorem Fx{B:List Int}{T:List Aa}{a n:Int}(ha:0≤a)(hB:B.length<4611686018427387904):A9 a n B T=some (Vn B.length a n,T,B):=by
 unfold A9 Vn;rw[cond_false]
 by_cases h1:n<1
 ·rw[show decide (n<(1:Int))=true from decide_eq_true (by omega),cond_true,cond_true];rw[show decide (1≤n)=false from decide_eq_false (by omega),Bool.false_and]
 ·rw[show decide (n<(1:Int))=false from decide_eq_false (by omega),cond_false,show decide (1≤n)=true from decide_eq_true (by omega),Bool.true_and]
  by_cases h2:(B.length:Int)<n
  ·rw[show decide ((B.length:Int)<n)=true from decide_eq_true (by omega),cond_true];rw[show decide (a+n≤(B.length:Int))=false from decide_eq_false (by omega)]
  ·rw[show decide ((B.length:Int)<n)=false from decide_eq_false (by omega),cond_false];rw[J2 (by omega) (by omega),Cw (by omega) (by omega)];rw[show decide (a≤(B.length:Int)-n)=decide (a+n≤(B.length:Int)) from decide_eq_decide.2 (by omega)]
theorem Uf{v b:Int}{i:Nat}(h0:0≤v)(h1:v<256 ^ i)(hb:0≤b)(hb':b<256)(hi:i<8):Ex .or .u64 v (Pw .u64 (Dm b) (Iq (8*(i:Int))))=v+256 ^ i*b:=by
 have e1:(256:Int) ^ i=((2 ^ (8*i):Nat):Int):=by rw[Nat.pow_mul];exact(Int.natCast_pow 256 i).symm
 obtain⟨V,rfl⟩:∃ V:Nat,v=V:=⟨v.toNat,by omega⟩;obtain⟨C,rfl⟩:∃ C:Nat,b=C:=⟨b.toNat,by omega⟩;rw[e1]at h1 ⊢;have h1:V<2 ^ (8*i):=Int.ofNat_lt.1 h1;have hC:C<256:=Int.ofNat_lt.1 hb'
 have hp:2 ^ (8*i)*256≤2 ^ 64:=by
  have:2 ^ (8*i)*2 ^ 8=2 ^ (8*i+8):=by rw[Nat.pow_add]
  have h2:(2:Nat) ^ (8*i+8)≤2 ^ 64:=Nat.pow_le_pow_right (by decide) (by omega);omega
 have hlt:V+C*2 ^ (8*i)<2 ^ 64:=by
  have:C*2 ^ (8*i)≤255*2 ^ (8*i):=Nat.mul_le_mul_right _ (by omega);omega
 rw[J2 (by omega) (by omega),Cw (by omega) (by omega)]
 have e2:Pw .u64 (C:Int) (8*(i:Int))=((C*2 ^ (8*i):Nat):Int):=by
  unfold Pw
  have:(8*(i:Int)).toNat=8*i:=by omega
  rw[this,show min (8*i) IntKind.u64.bits=8*i by simp[IntKind.bits];omega]
  have e3:(C:Int)*2 ^ (8*i)=((C*2 ^ (8*i):Nat):Int):=by rw[Int.natCast_mul,Int.natCast_pow];rfl
  rw[e3];exact M6 .u64 rfl (by simp[IntKind.bits];omega)
 rw[Ue .u64 rfl (8*i) h1 (by simpa [IntKind.bits] using hlt) e2];rw[Int.natCast_add,Int.natCast_mul,Int.mul_comm]
theorem Ov{B:List Int}(hB:F4 B)(hL:B.length<4611686018427387904){s:Nat}(hs:s≤8):∀(k i cur:Nat) (v:Int) (t:List Aa),i+k=s→cur+k≤B.length→0≤v→v<256 ^ i→t.length+k≤room→
  Cl (A7 (s:Int) B) ((cur:Int),v,(i:Int),t)=some (v+256 ^ i*Sv (Fk B cur k),t++M7 false cur (Fk B cur k))
 | 0,i,cur,v,t,hi,hc,h0,h1,hr=>by
  obtain rfl:i=s:=by omega
  refine Bo ?_;unfold A7;simp only;rw[Kn,cond_false,Py];simp[Sv,M7]
 | k+1,i,cur,v,t,hi,hc,h0,h1,hr=>by
  obtain⟨b0,b1⟩:=Sl hB cur
  have step:A7 (s:Int) B ((cur:Int),v,(i:Int),t)=some (.next (((cur+1:Nat):Int),v+256 ^ i*B.getD cur 0,((i+1:Nat):Int),t++[⟨false,(cur:Int),B.getD cur 0⟩])):=by
   unfold A7;simp only;rw[Hv (by omega),cond_true,An (T6 (by omega)),An (by simp;omega),An (by rw[J2 (by omega) (by omega)];omega),Bs,Uf h0 h1 b0 b1 (by omega),w1 (by omega),Cw (by omega) (by omega)]
   rfl
  rw[C0 step,Ov hB hL hs k (i+1) (cur+1) _ _ (by omega) (by omega) (by have:=Int.mul_nonneg (Int.le_of_lt (Ru i)) b0;omega) (by
   rw[Int.pow_succ];have:256 ^ i*B.getD cur 0≤256 ^ i*255:=Int.mul_le_mul_of_nonneg_left (by omega) (Int.le_of_lt (Ru i))
   omega) (by simp;omega),Px (by omega)]
  simp only[Sv,M7,Int.pow_succ,List.append_assoc,List.singleton_append];rw[Int.mul_add,Int.add_assoc,Int.mul_assoc]
theorem Pm{B:List Int}{T:List Aa}(hB:F4 B)(hL:B.length<4611686018427387904){s cur:Nat}(hs:s≤8)(hc:cur+s≤B.length)(hr:T.length+s≤room) :
  Bv (cur:Int) (s:Int) B T=some (Sv (Fk B cur s),T++M7 false cur (Fk B cur s),B):=by
 unfold Bv;have:=Ov hB hL hs s 0 cur 0 T (by omega) hc (by decide) (by decide) hr;rw[show((0:Nat):Int)=0 from rfl]at this;rw[this]
 simp
theorem V6{v:Int}:R0 .u64 v (8:Int)=v / 256:=by
 unfold R0
 have:min (8:Int).toNat IntKind.u64.bits=8:=by decide
 rw[this,Rb]
 rfl
theorem Oz{s:Nat}(hs:s≤8):∀(k i cur:Nat) (v:Int) (t:List Aa) (B:List Int),i+k=s→cur+k≤B.length→B.length<4611686018427387904→t.length+k≤room→
  Cl (A2 (s:Int)) ((cur:Int),v,(i:Int),t,B)=some (t++M7 true cur (Ki k v),Gp B cur (Ki k v))
 | 0,i,cur,v,t,B,hi,hc,hL,hr=>by
  obtain rfl:i=s:=by omega
  refine Bo ?_;unfold A2;simp only;rw[Kn,cond_false];simp[Ki,M7,Gp]
 | k+1,i,cur,v,t,B,hi,hc,hL,hr=>by
  have step:A2 (s:Int) ((cur:Int),v,(i:Int),t,B)=some (.next (((cur+1:Nat):Int),v / 256,((i+1:Nat):Int),t++[⟨true,(cur:Int),v % 256⟩],B.set cur (v % 256))):=by
   unfold A2;simp only;rw[Hv (by omega),cond_true,An (T6 (by omega)),An (by simp;omega),Bs,V6,Td,w1 (by omega),Cw (by omega) (by omega)]
   rfl
  rw[C0 step,Oz hs k (i+1) (cur+1) _ _ _ (by omega) (by simp;omega) (by simpa using hL) (by simp;omega)];simp[Ki,M7,Gp]
theorem Nw{B:List Int}{T:List Aa}{v:Int}(hL:B.length<4611686018427387904){s cur:Nat}(hs:s≤8)(hc:cur+s≤B.length)(hr:T.length+s≤room) :
  Bq (cur:Int) (s:Int) v B T=some (T++M7 true cur (Ki s v),Gp B cur (Ki s v)):=by
 unfold Bq;have:=Oz hs s 0 cur v T B (by omega) hc hL hr;rw[show((0:Nat):Int)=0 from rfl]at this;rw[this]
 rfl
def Ig(B:List Int)(s:Nat):Nat→Nat→List Int×Bool×List Aa
 | 0,_=>([],true,[])
 | n+1,cur=>if cur+s≤B.length then(Sv (Fk B cur s)::(Ig B s n (cur+s)).1,(Ig B s n (cur+s)).2.1,M7 false cur (Fk B cur s)++(Ig B s n (cur+s)).2.2) else([],false,[])
def Dg(s:Nat):List Int→Nat→List Int→Bool×List Aa×List Int
 | [],_,B=>(true,[],B)
 | v::l,cur,B=>if cur+s≤B.length then((Dg s l (cur+s) (Gp B cur (Ki s v))).1,M7 true cur (Ki s v)++(Dg s l (cur+s) (Gp B cur (Ki s v))).2.1,(Dg s l (cur+s) (Gp B cur (Ki s v))).2.2) else(false,[],B)
theorem S4{B:List Int}{s:Nat}(n cur:Nat):(Ig B s n cur).2.2.length≤n*s:=by
 induction n generalizing cur with
 | zero=>simp[Ig]
 | succ n ih=>
  unfold Ig
  split
  ·have:=ih (cur+s);simp[Hc,M5 ‹_›,Nat.succ_mul];omega
  ·simp
theorem Tb{s:Nat}(l:List Int)(cur:Nat)(B:List Int):(Dg s l cur B).2.1.length≤l.length*s∧(Dg s l cur B).2.2.length=B.length:=by
 induction l generalizing cur B with
 | nil=>simp[Dg]
 | cons v l ih=>
  unfold Dg
  split
  ·have:=ih (cur+s) (Gp B cur (Ki s v));rw[Fd]at this;simp[Hc,Lf,Nat.succ_mul];omega
  ·simp
theorem Ug{s:Nat}(l:List Int)(cur:Nat){B:List Int}(hB:F4 B):F4 (Dg s l cur B).2.2:=by
 induction l generalizing cur B with
 | nil=>simpa [Dg] using hB
 | cons v l ih=>
  unfold Dg
  split
  ·exact ih _ (S2 hB (T1 _ _))
  ·exact hB
def P1(bits:Int):Bool:=bits==8 || bits==16 || bits==32 || bits==64
def Gm(bits n:Int):Bool:=P1 bits&&decide (0≤n)&&decide (n≤16)
theorem wdB_cases{bits:Int}(h:P1 bits=true):bits=8∨bits=16∨bits=32∨bits=64:=by
 simp only[P1,Bool.or_eq_true,beq_iff_eq]at h;omega
theorem Kw(bits:Int):B9 bits=some (bif P1 bits then bits / 8 else 0):=by
 by_cases h:P1 bits=true
 ·rw[h,cond_true];rcases wdB_cases h with rfl|rfl|rfl|rfl<;>decide
 ·have h':P1 bits=false:=by simpa using h
  rw[h',cond_false];simp only[P1,Bool.or_eq_false_iff]at h';obtain⟨⟨⟨h1,h2⟩,h3⟩,h4⟩:=h';unfold B9;rw[h1,cond_false,h2,cond_false,h3,cond_false,h4]
  rfl
theorem Ta{bits:Int}(h:P1 bits=true):∃ s:Nat,bits / 8=(s:Int)∧1≤s∧s≤8∧bits=8*(s:Int)∧Iq (Int.tdiv bits 8)=(s:Int):=by
 rcases wdB_cases h with rfl|rfl|rfl|rfl
 ·exact⟨1,by decide,by decide,by decide,by decide,by decide⟩
 ·exact⟨2,by decide,by decide,by decide,by decide,by decide⟩
 ·exact⟨4,by decide,by decide,by decide,by decide,by decide⟩
 ·exact⟨8,by decide,by decide,by decide,by decide,by decide⟩
theorem Ip{N s cur:Nat}(hs:1≤s):Vn N (cur:Int) (s:Int)=decide (cur+s≤N):=by
 unfold Vn;rw[show decide (1≤(s:Int))=true from decide_eq_true (by omega),Bool.true_and];exact decide_eq_decide.2 (by omega)
theorem Rw{B:List Int}(hB:F4 B)(hL:B.length<4611686018427387904){s:Nat}(hs:s≤8)(hs1:1≤s){N:Nat}(hN:N≤16):∀(k i cur:Nat) (done:List Int) (t:List Aa),i+k=N→done.length=i→t.length+k*8≤room→
  Cl (A8 (N:Int) (s:Int)) ((cur:Int),(i:Int),done++List.replicate k 0,t,B) =
   some (if(Ig B s k cur).2.1=true then .inl (done++(Ig B s k cur).1,t++(Ig B s k cur).2.2,B) else .inr (t++(Ig B s k cur).2.2,B))
 | 0,i,cur,done,t,hi,hd,hr=>by
  obtain rfl:i=N:=by omega
  refine Bo ?_;unfold A8;simp only;rw[List.length_replicate,Bs,Kn,cond_false];simp[Ig]
 | k+1,i,cur,done,t,hi,hd,hr=>by
  by_cases hc:cur+s≤B.length
  ·have step:A8 (N:Int) (s:Int) ((cur:Int),(i:Int),done++List.replicate (k+1) 0,t,B)=some (.next (((cur+s:Nat):Int),((i+1:Nat):Int),(done++[Sv (Fk B cur s)])++List.replicate k 0,t++M7 false cur (Fk B cur s),B)):=by
    unfold A8;simp only;rw[List.length_replicate,Bs,Hv (by omega),cond_true,Fx (by omega) hL,Option.bind_some,An rfl,Ip hs1];simp only;rw[show decide (cur+s≤B.length)=true from decide_eq_true (by omega),Bool.not_true,cond_false,Pm hB hL hs hc (by omega),Option.bind_some,An rfl,An (T6 (by simp;omega)),w1 (by omega),Cw (n:=(s:Int)) (by omega) (by omega),Cw (by omega) (by omega),Bs]
    have e:(done++List.replicate (k+1) (0:Int)).set i (Sv (Fk B cur s))=(done++[Sv (Fk B cur s)])++List.replicate k 0:=by
     rw[List.replicate_succ,List.set_append_right _ _ (by omega),hd,Nat.sub_self,List.set_cons_zero,List.append_assoc];rfl
    rw[e]
    simp
   rw[C0 step,Rw hB hL hs hs1 hN k (i+1) (cur+s) _ _ (by omega) (by simp[hd]) (by simp[Hc,M5 hc];omega)];rw[Ig,if_pos hc];simp only[List.append_assoc,List.singleton_append]
  ·rw[Ig,if_neg hc];refine Bo ?_;unfold A8;simp only;rw[List.length_replicate,Bs,Hv (by omega),cond_true,Fx (by omega) hL,Option.bind_some,An rfl,Ip hs1];simp only;rw[show decide (cur+s≤B.length)=false from decide_eq_false (by omega),Bool.not_false,cond_true]
   simp
def RD(a bits n:Int)(B:List Int)(T:List Aa):List Int×Int×List Aa×List Int:=
 if Gm bits n=true then(if(Ig B (bits / 8).toNat n.toNat a.toNat).2.1=true then((Ig B (bits / 8).toNat n.toNat a.toNat).1,0,T++(Ig B (bits / 8).toNat n.toNat a.toNat).2.2,B) else([],8,T++(Ig B (bits / 8).toNat n.toNat a.toNat).2.2,B)) else([],1,T,B)
theorem Oo{bits n:Int}:(bif bif (bif P1 bits then bits / 8 else 0)==0 then true else decide (n<0) then true else decide (16<n)) = !Gm bits n:=by
 unfold Gm
 cases h:P1 bits with
 | false=>rfl
 | true=>
  obtain⟨s,h1,h2,h3,_⟩:=Ta h;rw[cond_true,h1,show((s:Int)==0)=false by simp;omega,cond_false,Bool.true_and]
  by_cases h4:n<0
  ·rw[decide_eq_true h4,cond_true,decide_eq_false (show ¬ (0≤n) by omega)];rfl
  ·rw[decide_eq_false h4,cond_false,decide_eq_true (show 0≤n by omega),Bool.true_and]
   by_cases h5:16<n
   ·rw[decide_eq_true h5,decide_eq_false (show ¬ n≤16 by omega)];rfl
   ·rw[decide_eq_false h5,decide_eq_true (show n≤16 by omega)];rfl
theorem Nv{a bits n:Int}{B:List Int}{T:List Aa}(ha:0≤a)(hB:F4 B)(hL:B.length<4611686018427387904)(hr:T.length+128≤room):Bp a bits n B T=some (RD a bits n B T):=by
 unfold Bp RD;rw[Kw,Option.bind_some,Oo]
 cases hm:Gm bits n with
 | false=>simp[Eb]
 | true=>
  simp only[Gm,Bool.and_eq_true,decide_eq_true_iff]at hm;obtain⟨⟨hw,h0⟩,h1⟩:=hm;obtain⟨s,h2,h3,h4,h5,h6⟩:=Ta hw;obtain⟨N,rfl⟩:∃ N:Nat,n=N:=⟨n.toNat,by omega⟩;obtain⟨A,rfl⟩:∃ A:Nat,a=A:=⟨a.toNat,by omega⟩;rw[Bool.not_true,cond_false,hw,cond_true,h2,An ⟨h0,Int.le_refl _,by have:room=1099511627776:=rfl;omega⟩,Bs,Bs,Bs];have:=Rw hB hL h4 h3 (N:=N) (by omega) N 0 A [] T (by omega) rfl (by omega);rw[List.nil_append,show((0:Nat):Int)=0 from rfl]at this;rw[this]
  by_cases hk:(Ig B s N A).2.1=true
  ·rw[if_pos hk,if_pos hk];rfl
  ·rw[if_neg hk,if_neg hk,Option.bind_some]
   show(Eb (some (.next _)) _).bind _=_
   unfold Eb;rw[Option.bind_some];simp only;rw[Bo (x:=(([]:List Int),(8:Int),T++(Ig B s N A).2.2,B)) rfl]
   rfl
theorem R4{s:Nat}(hs:s≤8)(hs1:1≤s){L:List Int}(hN:L.length≤16):∀(k i cur:Nat) (t:List Aa) (B:List Int),i+k=L.length→B.length<4611686018427387904→t.length+k*8≤room→
  Cl (A5 L (s:Int)) ((cur:Int),(i:Int),t,B) =
   some (if(Dg s (L.drop i) cur B).1=true then .inl (t++(Dg s (L.drop i) cur B).2.1,(Dg s (L.drop i) cur B).2.2) else .inr (t++(Dg s (L.drop i) cur B).2.1,(Dg s (L.drop i) cur B).2.2))
 | 0,i,cur,t,B,hi,hL,hr=>by
  obtain rfl:i=L.length:=by omega
  refine Bo ?_;unfold A5;simp only;rw[Kn,cond_false,List.drop_length];simp[Dg]
 | k+1,i,cur,t,B,hi,hL,hr=>by
  have hd:L.drop i=L.getD i 0::L.drop (i+1):=by rw[List.drop_eq_getElem_cons (by omega),B8 _ _ _ (by omega)]
  by_cases hc:cur+s≤B.length
  ·have step:A5 L (s:Int) ((cur:Int),(i:Int),t,B)=some (.next (((cur+s:Nat):Int),((i+1:Nat):Int),t++M7 true cur (Ki s (L.getD i 0)),Gp B cur (Ki s (L.getD i 0)))):=by
    unfold A5;simp only;rw[Hv (by omega),cond_true,An (T6 (by omega)),Fx (by omega) hL,Option.bind_some,An rfl,Ip hs1];simp only;rw[show decide (cur+s≤B.length)=true from decide_eq_true (by omega),Bool.not_true,cond_false,Bs,Nw hL hs hc (by omega),Option.bind_some,An (by rw[Fd]),w1 (by omega),Cw (n:=(s:Int)) (by omega) (by omega),Cw (by omega) (by omega)]
    simp
   rw[C0 step,R4 hs hs1 hN k (i+1) (cur+s) _ _ (by omega) (by rw[Fd];exact hL) (by simp[Hc,Lf];omega)];rw[hd,Dg,if_pos hc];simp only[List.append_assoc]
  ·rw[hd,Dg,if_neg hc];refine Bo ?_;unfold A5;simp only;rw[Hv (by omega),cond_true,An (T6 (by omega)),Fx (by omega) hL,Option.bind_some,An rfl,Ip hs1];simp only;rw[show decide (cur+s≤B.length)=false from decide_eq_false (by omega),Bool.not_false,cond_true]
   simp
def WR(a bits:Int)(L:List Int)(B:List Int)(T:List Aa):Int×List Aa×List Int:=
 if Gm bits L.length=true then(if(Dg (bits / 8).toNat L a.toNat B).1=true then 0 else 8,T++(Dg (bits / 8).toNat L a.toNat B).2.1,(Dg (bits / 8).toNat L a.toNat B).2.2) else(1,T,B)
theorem Rk{bits:Int}{n:Nat}:(bif (bif P1 bits then bits / 8 else 0)==0 then true else decide (16<(n:Int))) = !Gm bits n:=by
 rw[← Oo,show decide ((n:Int)<0)=false from decide_eq_false (by omega)]
 cases(bif P1 bits then bits / 8 else 0)==0<;>rfl
theorem Lm{a bits:Int}{L B:List Int}{T:List Aa}(ha:0≤a)(hL:B.length<4611686018427387904)(hr:T.length+128≤room):Bj a bits L B T=some (WR a bits L B T):=by
 unfold Bj WR;rw[Kw,Option.bind_some,Rk]
 cases hm:Gm bits L.length with
 | false=>simp[Eb]
 | true=>
  simp only[Gm,Bool.and_eq_true,decide_eq_true_iff]at hm;obtain⟨⟨hw,h0⟩,h1⟩:=hm;obtain⟨s,h2,h3,h4,h5,h6⟩:=Ta hw;obtain⟨A,rfl⟩:∃ A:Nat,a=A:=⟨a.toNat,by omega⟩;rw[Bool.not_true,cond_false,hw,cond_true,h2,Bs,Bs];have:=R4 h4 h3 (L:=L) (by omega) L.length 0 A T B (by omega) hL (by omega);rw[List.drop_zero,show((0:Nat):Int)=0 from rfl]at this;rw[this]
  by_cases hk:(Dg s L A B).1=true
  ·rw[if_pos hk,if_pos rfl,if_pos hk];rfl
  ·rw[if_neg hk,if_pos rfl,if_neg hk,Option.bind_some]
   show(Eb (some (.next _)) _).bind _=_
   unfold Eb;rw[Option.bind_some];simp only;rw[Bo (x:=((8:Int),T++(Dg s L A B).2.1,(Dg s L A B).2.2)) rfl]
   rfl
theorem F0:room=1099511627776:=rfl
theorem Mp{b:List Int}(h:b.length≤4096):Cr b=some ((true,⟨b,[]⟩),0):=by
 unfold Cr Au;rw[decide_eq_false (by omega),cond_false,An (by rw[F0];omega)]
 rfl
theorem Om{B:List Int}{T:List Aa}(h:B.length≤room):Bh B T=some (B,T,B):=by
 unfold Bh Au;rw[An h];rfl
theorem On{B:List Int}{T:List Aa}(h:T.length≤room):Bi B T=some (T,T,B):=by
 unfold Bi Av;rw[An (by simpa using h)];rfl
theorem Jb{l:List Aa}(h:l.length<4611686018427387904):A6 l l=some true:=by
 unfold A6;rw[show(((l.length:Int))!=(l.length:Int))=false by simp,cond_false]
 have:Cl (Ay l l) (0:Int)=some (.inl ()):=Ri _ (fun i:Nat=>(i:Int)) _ l.length (fun i hi=>by
  unfold Ay;rw[Hv hi,cond_true,An (T6 hi),An (T6 hi)];simp only[beq_self_eq_true,Bool.and_self,Bool.not_true,cond_false]
  rw[w1 (by omega)]) (by
  unfold Ay
  rw[Kn,cond_false])
 rw[this];rfl
theorem Qc:WR 2 16 [258] [9,9,9,9] []=(0,[⟨true,2,2⟩,⟨true,3,1⟩],[9,9,2,1]):=by decide
theorem O7:RD 0 32 1 [9,9,2,1] [⟨true,2,2⟩,⟨true,3,1⟩]=([16910601],0,[⟨true,2,2⟩,⟨true,3,1⟩,⟨false,0,9⟩,⟨false,1,9⟩,⟨false,2,2⟩,⟨false,3,1⟩],[9,9,2,1]):=by decide
theorem O8:RD 1 32 1 [9,9,2,1] [⟨true,2,2⟩,⟨true,3,1⟩,⟨false,0,9⟩,⟨false,1,9⟩,⟨false,2,2⟩,⟨false,3,1⟩]=([],8,[⟨true,2,2⟩,⟨true,3,1⟩,⟨false,0,9⟩,⟨false,1,9⟩,⟨false,2,2⟩,⟨false,3,1⟩],[9,9,2,1]):=by decide
theorem K0:F4 [9,9,2,1]:=by unfold F4;decide
theorem Pl:m_locksteplaw12_awake=some true:=by
 unfold m_locksteplaw12_awake;rw[Mp (by decide),Option.bind_some]
 dsimp only
 rw[cond_true,show((0:Int)!=0)=false by decide,cond_false,Lm (by decide) (by decide) (by decide),Qc,Option.bind_some]
 dsimp only
 rw[An (by decide),Nv (by decide) K0 (by decide) (by decide),O7,Option.bind_some]
 dsimp only
 rw[An (by decide),Nv (by decide) K0 (by decide) (by decide),O8,Option.bind_some]
 dsimp only
 rw[An (by decide),Om (by decide),Option.bind_some]
 dsimp only
 rw[An (by decide),An (by decide),An (by decide),An (by decide)];rw[On (by decide),Option.bind_some]
 dsimp only
 rw[An (by decide),Fx (by decide) (by decide),Option.bind_some]
 dsimp only
 rw[An (by decide),Fx (by decide) (by decide),Option.bind_some]
 dsimp only
 rw[An (by decide)]
 rfl
theorem Mr{bits n:Int}(h:Gm bits n=true):(bits / 8).toNat≤8∧n.toNat≤16:=by
 simp only[Gm,Bool.and_eq_true,decide_eq_true_iff]at h;obtain⟨⟨hw,h0⟩,h1⟩:=h;obtain⟨s,h2,h3,h4,_⟩:=Ta hw;omega
theorem Ob(a bits:Int)(L B:List Int)(T:List Aa):(WR a bits L B T).2.2.length=B.length∧(WR a bits L B T).2.1.length≤T.length+128∧(F4 B→F4 (WR a bits L B T).2.2):=by
 unfold WR
 split
 ·rename_i h
  obtain⟨h1,h2⟩:=Mr h;obtain⟨h3,h4⟩:=Tb (s:=(bits / 8).toNat) L a.toNat B;have h5:L.length*(bits / 8).toNat≤16*8:=Nat.mul_le_mul (by omega) h1;refine⟨h4,?_,fun hB=>Ug L _ hB⟩;rw[List.length_append];omega
 ·exact⟨rfl,by simp,id⟩
theorem Sc(a bits n:Int)(B:List Int)(T:List Aa):(RD a bits n B T).2.2.2=B∧(RD a bits n B T).2.2.1.length≤T.length+128:=by
 unfold RD
 split
 ·rename_i h
  obtain⟨h1,h2⟩:=Mr h;have h3:=S4 (B:=B) (s:=(bits / 8).toNat) n.toNat a.toNat;have h5:n.toNat*(bits / 8).toNat≤16*8:=Nat.mul_le_mul (by omega) h1
  split<;>(refine⟨rfl,?_⟩;rw[List.length_append];omega)
 ·exact⟨rfl,by simp⟩
theorem Vf{s:Nat}(L:List Int)(cur:Nat)(B C:List Int)(h:C.length=B.length):(Ig C s L.length cur).2.1=(Dg s L cur B).1∧((Dg s L cur B).1=true→(Ig C s L.length cur).1.length=L.length):=by
 induction L generalizing cur B with
 | nil=>exact⟨rfl,fun _=>rfl⟩
 | cons v L ih=>
  rw[List.length_cons,Ig,Dg,h]
  split
  ·obtain⟨i1,i2⟩:=ih (cur+s) (Gp B cur (Ki s v)) (by rw[Fd,h]);exact⟨i1,fun hk=>by simp[i2 hk]⟩
  ·exact⟨rfl,fun hk=>by cases hk⟩
theorem Sd{A:Nat}{v:Int}{b:List Int}{T:List Aa}:WR A 16 [v] b T=if A+2≤b.length then(0,T++M7 true A (Ki 2 v),Gp b A (Ki 2 v)) else(8,T,b):=by
 have hm:Gm 16 (([v]:List Int).length:Int)=true:=(by decide:Gm 16 1=true);unfold WR;rw[if_pos hm,show((16:Int) / 8).toNat=2 from rfl,Bs,Dg]
 by_cases h:A+2≤b.length
 ·rw[if_pos h,if_pos h];simp[Dg]
 ·rw[if_neg h,if_neg h];simp
theorem Kx{a:Int}{A:Nat}(ha:Dm a=(A:Int))(hA:A<256){L:List Int}(hL:L.length≤16):∀(k i:Nat) (t:List Aa) (B:List Int),i+k=L.length→B.length≤4096→t.length+2*k≤1000→
  Cl (Ar a L) ((0:Int),(i:Int),t,B)=some (if(Dg 2 (L.drop i) (A+2*i) B).1=true then 0 else 8,t++(Dg 2 (L.drop i) (A+2*i) B).2.1,(Dg 2 (L.drop i) (A+2*i) B).2.2)
 | 0,i,t,B,hi,hB,ht=>by
  obtain rfl:i=L.length:=by omega
  refine Bo ?_;unfold Ar
  dsimp only
  rw[Kn,cond_false,cond_false,List.drop_length];simp[Dg]
 | k+1,i,t,B,hi,hB,ht=>by
  have hd:L.drop i=L.getD i 0::L.drop (i+1):=by rw[List.drop_eq_getElem_cons (by omega),B8 _ _ _ (by omega)]
  have hone:(L.take (i+1)).drop i=[L.getD i 0]:=by
   rw[Jz _ _ 0 (by omega),List.drop_append_of_le_length (by simp;omega),List.drop_of_length_le (by simp;omega)];rfl
  have hat:Dm ((A:Int)+Dm (Iq (2*(i:Int))))=((A+2*i:Nat):Int):=by
   rw[J2 (by omega) (by omega),Cw (n:=2*(i:Int)) (by omega) (by omega),Cw (by omega) (by omega)];omega
  have step:Ar a L ((0:Int),(i:Int),t,B)=some (.next ((WR ((A+2*i:Nat):Int) 16 [L.getD i 0] B t).1,((i+1:Nat):Int),(WR ((A+2*i:Nat):Int) 16 [L.getD i 0] B t).2.1,(WR ((A+2*i:Nat):Int) 16 [L.getD i 0] B t).2.2)):=by
   unfold Ar
   dsimp only
   rw[Hv (by omega),cond_true,show((0:Int)==0)=true by decide,cond_true,w1 (by omega),An ⟨by omega,by omega,by omega⟩,Bs,Bs,hone,ha,hat,Lm (by omega) (by omega) (by rw[F0];omega),Option.bind_some,An (Ob _ _ _ _ _).1.symm]
  rw[C0 step,Sd,hd,Dg]
  by_cases hc:A+2*i+2≤B.length
  ·rw[if_pos hc,if_pos hc]
   dsimp only
   rw[Kx ha hA hL k (i+1) _ _ (by omega) (by rw[Fd];exact hB) (by simp[Hc,Lf];omega),show A+2*(i+1)=A+2*i+2 by omega,List.append_assoc]
  ·rw[if_neg hc,if_neg hc]
   dsimp only
   refine Bo ?_;unfold Ar
   dsimp only
   rw[show((8:Int)==0)=false by decide]
   cases decide (((i+1:Nat):Int)<(L.length:Int))<;>simp
theorem many12(b:List Int)(a:Int)(L:List Int)(hb:F4 b)(ha:0≤a∧a<256)(hv:∀ v∈L,0≤v∧v<18446744073709551616):Bf b a L=some true:=by
 unfold Bf;rw[Pl,Option.bind_some,Bool.not_true,cond_false]
 by_cases h2:200<b.length
 ·rw[decide_eq_true (show(200:Int)<b.length by omega),cond_true,cond_true]
 ·rw[decide_eq_false (show ¬ (200:Int)<b.length by omega),cond_false]
  by_cases h16:16<L.length
  ·rw[decide_eq_true (by omega),cond_true]
  ·rw[decide_eq_false (by omega),cond_false,Mp (by omega),Option.bind_some]
   dsimp only
   rw[cond_true,Option.bind_some]
   dsimp only
   rw[cond_true];obtain⟨A,hA⟩:∃ A:Nat,a=A:=⟨a.toNat,by omega⟩
   have hp:Dm a=(A:Int):=by rw[Cw (by omega) (by omega),hA]
   have hm:Gm 16 (L.length:Int)=true:=by unfold Gm;rw[show P1 16=true by decide,decide_eq_true (show(0:Int)≤L.length by omega),decide_eq_true (by omega)];rfl
   have e:WR A 16 L b []=(if(Dg 2 L A b).1=true then 0 else 8,(Dg 2 L A b).2.1,(Dg 2 L A b).2.2):=by unfold WR;rw[hm,if_pos rfl,show((16:Int) / 8).toNat=2 from rfl,Bs,List.nil_append]
   obtain⟨f1,f2,f3⟩:=Ob A 16 L b [];have hl:=Kx hp (by omega) (L:=L) (by omega) L.length 0 [] b (by omega) (by omega) (by simp;omega);rw[List.drop_zero,Nat.mul_zero,Nat.add_zero,List.nil_append,show((0:Nat):Int)=0 from rfl]at hl;rw[hp,Lm (by omega) (by omega) (by rw[F0];simp),Option.bind_some,An f1.symm,hl,Option.bind_some,e];rw[e]at f1 f2 f3
   dsimp only at f1 f2 f3 ⊢
   rw[List.length_nil]at f2;have f3:=f3 hb;have hrw:=Vf (s:=2) L A b (Dg 2 L A b).2.2 f1
   have hRD:RD A 16 L.length (Dg 2 L A b).2.2 (Dg 2 L A b).2.1=(if(Dg 2 L A b).1=true then((Ig (Dg 2 L A b).2.2 2 L.length A).1,0,(Dg 2 L A b).2.1++(Ig (Dg 2 L A b).2.2 2 L.length A).2.2,(Dg 2 L A b).2.2) else([],8,(Dg 2 L A b).2.1++(Ig (Dg 2 L A b).2.2 2 L.length A).2.2,(Dg 2 L A b).2.2)):=by
    unfold RD;rw[if_pos hm,show((16:Int) / 8).toNat=2 from rfl,Bs,Bs,hrw.1]
   have hcode:∀ c:Int,(c !=c)=false:=fun c=>by simp
   rw[hcode,cond_false,Om (by rw[F0];omega),Option.bind_some,An rfl]
   dsimp only
   have hbf:Ec (Dg 2 L A b).2.2.length (fun i=>eU8 ((Dg 2 L A b).2.2.getD i (0:Int))):=Qx (fun _=>rfl) f3;rw[An hbf,Option.bind_some,An rfl]
   dsimp only
   rw[An hbf,beq_self_eq_true,Bool.not_true,cond_false,On (by rw[F0];omega),Option.bind_some,An rfl]
   dsimp only
   rw[Option.bind_some,An rfl]
   dsimp only
   rw[Jb (by omega),Option.bind_some,Bool.not_true,cond_false];rw[Nv (by omega) f3 (by omega) (by rw[F0];omega),Option.bind_some,An (by rw[(Sc _ _ _ _ _).1]),hRD]
   by_cases hk:(Dg 2 L A b).1=true
   ·rw[if_pos hk,if_pos hk]
    dsimp only
    rw[hcode,cond_false,cond_false,hrw.2 hk,beq_self_eq_true]
   ·rw[if_neg hk,if_neg hk]
    dsimp only
    rw[hcode,cond_false]
    rfl
theorem wf_u64{n:Int}(h:(Lit.int .u64 n).wf=true):0≤n∧n<18446744073709551616:=by simp[Lit.wf,IntKind.min,IntKind.max,IntKind.bits,IntKind.signed]at h;omega
theorem wf_u8{n:Int}(h:(Lit.int .u8 n).wf=true):0≤n∧n<256:=by simp[Lit.wf,IntKind.min,IntKind.max,IntKind.bits,IntKind.signed]at h;omega
abbrev Iall(w:World):Nat→Nat→Prop:=fun b o=>∃ u,w.cell? ⟨b,o,none⟩=some u
structure P7(w:World)(cs:List Value)(avs:List AV):Prop where
 len:cs.length=avs.length
 one:∀ j,j<avs.length→(cs.getD j undef).oneCell'=true
 rep:∀ j,j<avs.length→RepV (Iall w) w (cs.getD j undef) (avs.getD j .any)
structure Hr(P:Program)(t:TypeId){α:Type}(e:α→List AV)(ok:α→Prop):Prop where
 get:∀{H:Type} {enc:TypeId×Value→H} {w:World} {base:Nat} {spare:Nat→Bool} {held:Bool} {fuel:Nat} {cs:List Value} {x:DataW H×List MemPlace},
  DataW.trod enc P w base spare held fuel t cs=some x→∃ a,ok a∧P7 w cs (e a)
theorem Iy{w:World}{v:Value}{x:AV}(h1:v.oneCell'=true)(h:RepV (Iall w) w v x):P7 w [v] [x]:=
 ⟨rfl,fun j hj=>(by
   have hj0:j=0:=by simpa using hj
   subst hj0
   exact h1),fun j hj=>(by
   have hj0:j=0:=by simpa using hj
   subst hj0
   exact h)⟩
theorem K2{P:Program}{t:TypeId}{k:IntKind}{e:Int→List AV}(ht:P.underlying t=some (.int k))(he:∀ n,e n=[.int k n]):Hr P t e (fun n=>(Lit.int k n).wf=true):=by
 refine⟨?_⟩;intro H enc w base spare held fuel cs x h;obtain⟨n,rfl,rfl,hw⟩:=DataW.trod_int ht h;exact⟨n,hw,by rw[he];exact Iy rfl (.int _ _)⟩
theorem Nn{w:World}{base:Nat}{a:Addr}{n:Nat}{cs:List Value}(h:w.cells? base a n=some cs):cs.length=n∧∀ i,i<n→w.cell? (a.add i)=some (cs.getD i undef):=by
 unfold World.cells? at h
 split at h
 ·have hl:=mapM_some_length h;simp at hl;refine⟨hl,fun i hi=>?_⟩;have:=mapM_some_get h i i (by simp[hi]);rw[this];simp[List.getD,show i<cs.length by omega]
 ·cases h
theorem H5{P:Program}{t el:TypeId}{α:Type}{e:α→List AV}{ok:α→Prop}{sz:Nat}{d:α}{e':List α→List AV}(ht:P.underlying t=some (.slice el))(hs:P.cellsOf el=sz)(h1:1≤sz)(he:Hr P el e ok)(hlen:∀ a,(e a).length=sz)
  (he':∀ l,e' l=[AV.list sz e d l .none]):Hr P t e' (fun l=>(∀ a∈l,ok a)∧l.length≤maxLen):=by
 refine⟨?_⟩;intro H enc w base spare held fuel cs x h;rcases DataW.trod_slice ht h with⟨rfl,rfl⟩|⟨a,len,cap,elems,rest,n,_,rfl,rfl,hb,hl,hm,hlen2,hel,_⟩
 ·exact⟨[],⟨by simp,by simp⟩,by rw[he'];exact Iy rfl (.slice none 0 0 sz _ (fun _=>undef) (Nat.le_refl _) (by simp) (fun h=>by simp at h) (fun _=>rfl) (fun j hj=>by simp at hj) (fun i hi=>by simp at hi) (fun i c hi=>by simp at hi))⟩
 ·have each:∀ i:Fin len,∃ b,ok b∧∃ cs,w.cells? base (a.add (i.1*sz)) sz=some cs∧P7 w cs (e b):=fun⟨i,hi⟩=>by
   have:=hel i hi;rw[hs,List.getElem?_eq_getElem (by omega),Option.bind_eq_some_iff]at this;obtain⟨cs,hcs,htr⟩:=this;obtain⟨b,hb,hr⟩:=he.get htr;exact⟨b,hb,cs,hcs,hr⟩
  let f:Fin len→α:=fun i=>(each i).choose
  have hf:∀ i,ok (f i)∧∃ cs,w.cells? base (a.add (i.1*sz)) sz=some cs∧P7 w cs (e (f i)):=fun i=>(each i).choose_spec
  have hlf:(List.ofFn f).length=len:=by simp
  refine⟨List.ofFn f,⟨fun b hb=>?_,by simp;omega⟩,?_⟩
  ·obtain⟨i,rfl⟩:=List.mem_ofFn.1 hb;exact(hf i).1
  rw[he'];refine Iy rfl ?_
  have hcell0:∀ i (hi:i<len),∀ c,c<sz→∃ u,w.cell? ((a.add (i*sz)).add c)=some u∧u.oneCell'=true∧RepV (Iall w) w u ((e (f ⟨i,hi⟩)).getD c .any):=fun i hi c hc=>by
   obtain⟨_,cs,hcs,hr⟩:=hf ⟨i,hi⟩;obtain⟨hl,hg⟩:=Nn hcs;exact⟨_,hg c hc,hr.one c (by rw[hlen];exact hc),hr.rep c (by rw[hlen];exact hc)⟩
  have hspot:0<len→a.spot=none:=fun hp=>by
   obtain⟨u,hu,_⟩:=hcell0 0 hp 0 h1;have h2:=World.cell?_spot hu
   simpa [Addr.add] using h2
  have hcell:∀ i (hi:i<len),∀ c,c<sz→∃ u,w.cell? ⟨a.block,a.off+(i*sz+c),none⟩=some u∧u.oneCell'=true∧RepV (Iall w) w u ((e (f ⟨i,hi⟩)).getD c .any):=fun i hi c hc=>by
   obtain⟨u,hu,h1,h2⟩:=hcell0 i hi c hc;have hsp:=hspot (by omega);rw[Cb hsp,Addr.add_lit]at hu;exact⟨u,by rw[← Nat.add_assoc];exact hu,h1,h2⟩
  have hdm:∀ j,j<len*sz→∃ i c,i<len∧c<sz∧j=i*sz+c:=fun j hj=>by
   refine⟨j / sz,j % sz,(Nat.div_lt_iff_lt_mul (by omega)).2 hj,Nat.mod_lt _ (by omega),?_⟩;rw[Nat.mul_comm];exact(Nat.div_add_mod j sz).symm
  unfold AV.list;rw[hlf];refine .slice (some a) len cap sz _ (fun j=>(w.cell? ⟨a.block,a.off+j,none⟩).getD undef) hl hm (fun hp=>⟨a,rfl,hspot hp,fun j hj=>?_,fun j hj=>?_⟩) (fun h=>by cases h) (fun j hj=>?_) (fun i hi=>hlen _) (fun i c hi hc=>?_)
  ·obtain⟨i,c,hi,hc,rfl⟩:=hdm j hj;obtain⟨u,hu,_⟩:=hcell i hi c hc;exact⟨u,hu⟩
  ·obtain⟨i,c,hi,hc,rfl⟩:=hdm j hj;obtain⟨u,hu,_⟩:=hcell i hi c hc;rw[hu];rfl
  ·obtain⟨i,c,hi,hc,rfl⟩:=hdm j hj;obtain⟨u,hu,h1,_⟩:=hcell i hi c hc;simp only[hu];exact h1
  ·obtain⟨u,hu,_,h2⟩:=hcell i hi c hc
   have e1:(List.ofFn f).getD i d=f ⟨i,hi⟩:=by simp[List.getD,hi]
   rw[e1,hu];exact h2
structure Vo(P:Program)(fs:List Field)(off N:Nat){α:Type}(e:α→List AV)(ok:α→Prop):Prop where
 get:∀{H:Type} {enc:TypeId×Value→H} {w:World} {base:Nat} {spare:Nat→Bool} {held:Bool} {n:Nat} {cs:List Value},cs.length=N→
  (∀ f∈fs,∃ x,DataW.trod enc P w base spare held n f.type ((cs.drop f.offset).take (P.cellsOf f.type))=some x)→∃ a,ok a∧P7 w (cs.drop off) (e a)
theorem arg_one{P:Program}{t:TypeId}{α:Type}{e:α→List AV}{ok:α→Prop}(h:Hr P t e ok){x:α→AV}(he:∀ a,e a=[x a]){H:Type}{enc:TypeId×Value→H}{w:World}{base:Nat}{spare:Nat→Bool}{held:Bool}{v:Value}{d:DataW H}{ps:List MemPlace}
  (hv:v.cells = #[v]) (hd:DataW.Trod enc P w base spare held t v d ps):∃ a,ok a∧RepV (Iall w) w v (x a):=by
 obtain⟨fuel,hf⟩:=hd;obtain⟨a,ha,hr⟩:=h.get hf;refine⟨a,ha,?_⟩;have:=hr.rep 0 (by simp[he])
 simpa [hv,he] using this
def okU8(n:Int):Prop:=(Lit.int .u8 n).wf=true
theorem op_5:Hr Try.prog 5 eU8 okU8:=K2 Try.underlying5 (fun _=>rfl)
def okLU8(l:List (Int)):Prop:=(∀ a∈l,okU8 a)∧l.length≤maxLen
theorem op_22:Hr Try.prog 22 Vz okLU8:=H5 (d:=(0:Int)) Try.underlying22 (by kernel_rfl) (by decide) op_5 (fun _=>rfl) (fun _=>rfl)
def Tp(n:Int):Prop:=(Lit.int .u64 n).wf=true
theorem Vc:Hr Try.prog 33 eU64 Tp:=K2 Try.underlying33 (fun _=>rfl)
def okLU64(l:List (Int)):Prop:=(∀ a∈l,Tp a)∧l.length≤maxLen
theorem op_34:Hr Try.prog 34 U4 okLU64:=H5 (d:=(0:Int)) Try.underlying34 (by kernel_rfl) (by decide) Vc (fun _=>rfl) (fun _=>rfl)
end
end Go.Proofs.Ytbhekciniaeolaa
