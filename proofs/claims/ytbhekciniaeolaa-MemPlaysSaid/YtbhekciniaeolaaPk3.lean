/-
  The machine, the program's functions and the laws' arithmetic: part 3 of 3.
-/
import Derived.Test.YtbhekciniaeolaaPk2
import Derived.OpenShut
import Derived.ShutString
import Derived.Test.YtbhekciniaeolaaProg
set_option linter.unusedVariables false
set_option linter.unusedSimpArgs false
namespace Go.Proofs.Ytbhekciniaeolaa
noncomputable section
open Go Go.RowKit
inductive Tu where
 | nx (y:Code)
 | bl (id:Nat)
 | ag (c:Code) (n:Nat)
inductive D0 where
 | run (c:Code) (fs:List Tu)
 | out (e:Exit) (fs:List Tu)
def Qx(P:Program)(Γ:Dd)(K:Exit→St→Prop):List Tu→Exit→St→Prop
 | []=>K
 | .nx y::fs=>Vc P Γ y (Qx P Γ K fs)
 | .bl id::fs=>Hq id (Qx P Γ K fs)
 | .ag c n::fs=>fun e st=>(e = .normal∧Pr P Γ c (Qx P Γ K fs) n st)∨(e≠.normal∧Qx P Γ K fs e st)
def GG(P:Program)(Γ:Dd)(K:Exit→St→Prop):D0→St→Prop
 | .run c fs,st=>F4 P Γ c (Qx P Γ K fs) st
 | .out e fs,st=>Qx P Γ K fs e st
def F8:Code→Nat→Nat
 | .exit i,k=>bif Nat.beq i k then 1 else 0
 | .seq a b,k=>Nat.min 2 (F8 a k+F8 b k)
 | .cond _ a b,k=>Nat.min 2 (F8 a k+F8 b k)
 | .loop c,k=>Nat.min 1 (F8 c k)
 | .scope c,k=>Nat.min 1 (F8 c k)
 | .block _ c,k=>F8 c k
 | _,_=>0
def Ef:Code→Nat
 | .region _ _ _=>1
 | .skip=>1
 | .label _=>1
 | .seq a b=>bif Nat.beq (Ef a) 0 then 0 else Ef b
 | .cond _ a b=>Nat.min 2 (Ef a+Ef b)
 | .block i c=>Nat.min 2 (Ef c+F8 c i)
 | .scope c=>Nat.min 2 (Ef c)
 | _=>0
def Sw(a:Code):Bool:=match a with | .region _ _ _=>false|a=>Nat.ble 2 (Ef a)
def Kr:Nat→Code ⊕ Exit→List Tu→D0
 | 0,.inl c,fs=>.run c fs
 | 0,.inr e,fs=>.out e fs
 | n+1,.inl c,fs=>
  match c with
  | .skip=>Kr n (.inr .normal) fs
  | .label _=>Kr n (.inr .normal) fs
  | .seq a b=>bif Sw a then .run (.seq a b) fs else Kr n (.inl a) (.nx b::fs)
  | .block id a=>Kr n (.inl a) (.bl id::fs)
  | .exit id=>Kr n (.inr (.exit id)) fs
  | .goto l=>Kr n (.inr (.goto l)) fs
  | .ret=>Kr n (.inr .ret) fs
  | c=>.run c fs
 | n+1,.inr e,fs=>
  match fs with
  | []=>.out e []
  | .nx y::fs=>(match e with | .normal=>Kr n (.inl y) fs|e=>Kr n (.inr e) fs)
  | .bl id::fs=>(match e with | .exit i=>bif Nat.beq i id then Kr n (.inr .normal) fs else Kr n (.inr (.exit i)) fs|e=>Kr n (.inr e) fs)
  | .ag c m::fs=>(match e with | .normal=>(match m with|0=>.out .normal (.ag c 0::fs)|m+1=>Kr n (.inl c) (.ag c m::fs))|e=>Kr n (.inr e) fs)
section
variable {P:Program} {Γ:Dd} {K:Exit→St→Prop}
theorem Ar:∀(n:Nat) (x:Code ⊕ Exit) (fs:List Tu) (st:St),GG P Γ K (Kr n x fs) st→(match x with | .inl c=>F4 P Γ c (Qx P Γ K fs) st | .inr e=>Qx P Γ K fs e st)
 | 0,.inl c,fs,st,h=>h
 | 0,.inr e,fs,st,h=>h
 | n+1,.inl c,fs,st,h=>by
  cases c with
  | skip=>exact Si (Ar n (.inr .normal) fs st h)
  | label l=>exact Qs (Ar n (.inr .normal) fs st h)
  | seq a b=>
   cases hj:Sw a with
   | true=>simp only[Kr,hj,cond_true]at h;exact h
   | false=>simp only[Kr,hj,cond_false]at h;exact Pv (Ar n (.inl a) (.nx b::fs) st h)
  | block id a=>exact Qr (Ar n (.inl a) (.bl id::fs) st h)
  | exit id=>exact Sb (Ar n (.inr (.exit id)) fs st h)
  | goto l=>exact Sc (Ar n (.inr (.goto l)) fs st h)
  | ret=>exact T1 (Ar n (.inr .ret) fs st h)
  | _=>exact h
 | n+1,.inr e,[],st,h=>h
 | n+1,.inr e,.nx y::fs,st,h=>by
  cases e with
  | normal=>exact Ar n (.inl y) fs st h
  | exit i=>exact Ar n (.inr (.exit i)) fs st h
  | goto l=>exact Ar n (.inr (.goto l)) fs st h
  | ret=>exact Ar n (.inr .ret) fs st h
  | panic c=>exact Ar n (.inr (.panic c)) fs st h
  | outgrown=>exact Ar n (.inr .outgrown) fs st h
 | n+1,.inr e,.bl id::fs,st,h=>by
  cases e with
  | normal=>exact Ar n (.inr .normal) fs st h
  | exit i=>
   show Hq id (Qx P Γ K fs) (.exit i) st
   cases hb:Nat.beq i id with
   | true=>
    obtain rfl:=Nat.eq_of_beq_eq_true hb;simp only[Kr,hb,cond_true]at h;exact O1 (Ar n (.inr .normal) fs st h)
   | false=>
    simp only[Kr,hb,cond_false]at h;exact O0 hb (Ar n (.inr (.exit i)) fs st h)
  | goto l=>exact Ar n (.inr (.goto l)) fs st h
  | ret=>exact Ar n (.inr .ret) fs st h
  | panic c=>exact Ar n (.inr (.panic c)) fs st h
  | outgrown=>exact Ar n (.inr .outgrown) fs st h
 | n+1,.inr e,.ag c m::fs,st,h=>by
  cases e with
  | normal=>
   cases m with
   | zero=>exact h
   | succ m=>exact .inl ⟨rfl,Ar n (.inl c) (.ag c m::fs) st h⟩
  | exit i=>exact .inr ⟨(by intro hh;cases hh),Ar n (.inr (.exit i)) fs st h⟩
  | goto l=>exact .inr ⟨(by intro hh;cases hh),Ar n (.inr (.goto l)) fs st h⟩
  | ret=>exact .inr ⟨(by intro hh;cases hh),Ar n (.inr .ret) fs st h⟩
  | panic ch=>exact .inr ⟨(by intro hh;cases hh),Ar n (.inr (.panic ch)) fs st h⟩
  | outgrown=>exact .inr ⟨(by intro hh;cases hh),Ar n (.inr .outgrown) fs st h⟩
theorem Cx{n:Nat}{c:Code}{fs:List Tu}{st:St}(h:GG P Γ K (Kr n (.inl c) fs) st):F4 P Γ c (Qx P Γ K fs) st:=Ar n (.inl c) fs st h
theorem Ic{n:Nat}{e:Exit}{fs:List Tu}{st:St}(h:GG P Γ K (Kr n (.inr e) fs) st):Qx P Γ K fs e st:=Ar n (.inr e) fs st h
def V9(c:Code)(fs:List Tu):D0:=Kr 400 (.inl c) fs
def X0(e:Exit)(fs:List Tu):D0:=Kr 400 (.inr e) fs
def Yp:D0→D0
 | .run _ fs=>X0 .normal fs
 | x=>x
def Ui:D0→Option (List Oper×Bool)
 | .run (.region _ ops draw) _=>some (ops.toList,draw)
 | _=>none
def Wl(P:Program)(S:H0)(n:Nat)(cs:List (Nat×AV))(live names:List Nat)(x:D0)(st:St)(rs:List Hp):Option (St×List Prop×Bool):=
 match Ui x with
 | some (ops,draw)=>Jt P S n cs live names ops draw st rs
 | none=>none
def X2(P:Program)(S:H0)(n:Nat)(cs:List (Nat×AV))(live names:List Nat)(x:D0)(st:St)(rs:List Hp):St:=
 match Wl P S n cs live names x st rs with
 | some r=>r.1
 | none=>st
def Wa(r:Option (St×List Prop×Bool)):Option (Prop×Bool):=
 match r with
 | some r=>some (Ny r.2.1,r.2.2)
 | none=>none
theorem gR{x:D0}{st:St}{n:Nat}{H:List (Nat×Own)}(q:RgQ P Γ n H)(live names:List Nat)(cs:List (Nat×AV))(rs:List Hp){O:Prop}(hO:O)
  (k:GG P Γ K (Yp x) (X2 P (Spec P) n cs live names x st rs))
  (h:Wa (Wl P (Spec P) n cs live names x st rs)=some (O,true):=by kernel_rfl) (hh:(H.all fun x=>Co x.1 names)=true:=by kernel_rfl):GG P Γ K x st:=by
 unfold Wl at h;unfold X2 Wl at k
 cases x with
 | out e fs=>simp[Ui,Wa]at h
 | run c fs=>
  cases c with
  | region id ops draw=>
   simp only[Ui]at h k
   cases hr:Jt P (Spec P) n cs live names ops.toList draw st rs with
   | none=>rw[hr]at h;simp[Wa]at h
   | some r=>
    obtain⟨st',obs,d⟩:=r;rw[hr]at h k;simp only[Wa,Option.some.injEq,Prod.mk.injEq]at h;obtain⟨rfl,rfl⟩:=h;have:=Oz (id:=id) (K:=Qx P Γ K fs) q.hn q.mix (q.hand hh) hr hO (Ic k);exact(by simpa using this:F4 P Γ (.region id ops draw) (Qx P Γ K fs) st)
  | _=>simp[Ui,Wa]at h
theorem Br{x:D0}{st:St}{n:Nat}{H:List (Nat×Own)}(q:RgQ P Γ n H)(live names:List Nat)
  (k:GG P Γ K (Yp x) (X2 P (Spec P) n [] live names x st []))
  (h:Wa (Wl P (Spec P) n [] live names x st [])=some (True,true):=by kernel_rfl) (hh:(H.all fun x=>Co x.1 names)=true:=by kernel_rfl):GG P Γ K x st:=gR q live names [] [] trivial k h hh
def U6:D0→Bool | .run _ _=>true|_=>false
theorem U5{x:D0}{st st':St}(h:Le Γ st st')
  (k:GG P Γ K x st')
  (hx:U6 x=true:=by kernel_rfl):GG P Γ K x st:=by
 cases x with
 | run c fs=>exact Se h k
 | out e fs=>cases hx
theorem T5{x:D0}{st:St}(st':St)
  (k:GG P Γ K x st')
  (h:st=st':=by kernel_rfl):GG P Γ K x st:=h▸k
def Sn(x:D0)(st:St):AV:=match x with | .run (.cond c _ _) _=>N1 st.get c|_=>.any
def Wk(b:Bool):D0→D0
 | .run (.cond _ c d) fs=>V9 (bif b then c else d) fs
 | x=>x
theorem gC{x:D0}{st:St}{R:Type}{b:Bool}{m1 m2:Option R}{r:R}(h:(bif b then m1 else m2)=some r)
  (kt:m1=some r→GG P Γ K (Wk true x) st) (kf:m2=some r→GG P Γ K (Wk false x) st)
  (hv:Sn x st = .bool b:=by kernel_rfl):GG P Γ K x st:=by
 cases x with
 | out e fs=>cases hv
 | run c fs=>
  cases c with
  | cond c y z=>
   refine Nw b hv (fun hb=>Cx (n:=400) (kt ?_)) (fun hb=>Cx (n:=400) (kf ?_))
   ·subst hb;exact h
   ·subst hb;exact h
  | _=>cases hv
theorem Xk{x:D0}{st:St}(b:Bool)
  (k:GG P Γ K (Wk b x) st)
  (hv:Sn x st = .bool b:=by kernel_rfl):GG P Γ K x st:=by
 cases x with
 | out e fs=>cases hv
 | run c fs=>
  cases c with
  | cond c y z=>
   refine Nw b hv (fun hb=>Cx (n:=400) ?_) (fun hb=>Cx (n:=400) ?_)
   ·subst hb;exact k
   ·subst hb;exact k
  | _=>cases hv
theorem Wp{x:D0}{st:St}(pos:Bool)(n:Nat)
  (kt:(pos=true→n=0)→GG P Γ K (Wk true x) st) (kf:(pos=false→n=0)→GG P Γ K (Wk false x) st)
  (hv:Sn x st = .nilq pos n:=by kernel_rfl):GG P Γ K x st:=by
 cases x with
 | out e fs=>cases hv
 | run c fs=>
  cases c with
  | cond c y z=>exact Sh pos n hv (fun hb=>Cx (n:=400) (kt hb)) (fun hb=>Cx (n:=400) (kf hb))
  | _=>cases hv
theorem gB{R:Type}{c:Bool}{m1 m2:Option R}{r:R}{G:Prop}(h:(bif c then m1 else m2)=some r)(kt:c=true→m1=some r→G)(kf:c=false→m2=some r→G):G:=by
 cases c with
 | true=>exact kt rfl h
 | false=>exact kf rfl h
theorem Xj(F:Bool→Prop){c b:Bool}(hs:c=b)(h:F c):F b:=hs▸h
theorem Dm{a b:Bool}(h:a=b):AVle (.bool a) (.bool b):=by rw[h];exact .refl _
theorem Fa{p:Prop}(h:false=true):p:=Bool.noConfusion h
theorem Yo{p:Prop}(h:true=false):p:=Bool.noConfusion h
theorem gK{x:D0}{st:St}{e:Exit}(h:K e st)(hx:x = .out e []:=by kernel_rfl):GG P Γ K x st:=by subst hx;exact h
def aG(Γ:Dd)(e0:Exit)(og:St):Exit→St→Prop:=fun e st=>e=e0∧Le Γ st og
def aR(K:Exit→St→Prop):Exit→St→Prop:=fun e st=>e = .ret∧K e st
theorem J5{e0:Exit}{og st:St}(h:Le Γ st og):aG Γ e0 og e0 st:=⟨rfl,h⟩
theorem Nm{st:St}(h:K .ret st):aR K .ret st:=⟨rfl,h⟩
def Yt:Exit→Bool | .normal=>true|_=>false
theorem gN{S X:Type}{x:D0}{st:St}{H:S→St}{KX:X→Exit→St→Prop}{s':S}(h:Le Γ st (H s'))(hx:x = .out .normal []:=by kernel_rfl):GG P Γ (Nc Γ H KX (.next s')) x st:=by
 subst hx;exact⟨rfl,h⟩
theorem gO{S X:Type}{x:D0}{st:St}{H:S→St}{KX:X→Exit→St→Prop}{y:X}{e:Exit}(h:KX y e st)(hx:x = .out e []:=by kernel_rfl)(hn:Yt e=false:=by kernel_rfl):GG P Γ (Nc Γ H KX (.done y)) x st:=by
 subst hx;exact⟨(by rintro rfl;cases hn),h⟩
def fK(P:Program)(Γ:Dd)(rs:List ResultVar)(H:List (Nat×Own))(res:AV)(H':List (Nat×Own)):Exit→St→Prop:=Ym Γ (W5 P rs H res H')
theorem Ke{rs:List ResultVar}{H H':List (Nat×Own)}{res:AV}{st st':St}{e:Exit}(ρ:List (Nat×Nat))(hl:Le Γ st st')(hr:Qd P rs ρ H st'=some (res,H'):=by kernel_rfl)
  (he:(match e with | .ret=>true | .normal=>true|_=>false)=true:=by kernel_rfl):fK P Γ rs H res H' e st:=by
 refine⟨st',hl,?_,ρ,hr⟩
 cases e with
 | ret=>exact .inl rfl
 | normal=>exact .inr rfl
 | _=>cases he
theorem F2{rs:List ResultVar}{H H':List (Nat×Own)}{res:AV}{x:D0}{st:St}(ρ:List (Nat×Nat))(hr:Qd P rs ρ H st=some (res,H'):=by kernel_rfl)
  (hx:x = .out .ret []:=by kernel_rfl):GG P Γ (fK P Γ rs H res H') x st:=gK (e:=.ret) (Ke ρ (Le.refl _ _) hr) hx
def O2(fn:Func):Code:=match fn.body with|some c=>c|none=>.skip
theorem A7 {f : FuncId} {fn : Func} {args : List AV} {H H' : List (Nat × Own)} {res : AV} (hm : P.follows .mixedOrders = true) (hf : P.funcs[f]? = some fn)
    (k : ∀ Γ : Dd, RgQ P Γ fn.ntmps H → GG P Γ (fK P Γ fn.results.toList H res H') (V9 (O2 fn) []) (Kj args H))
    (hb : fn.body.isSome = true := by kernel_rfl) (hname : (fn.name == "runtime.NumGoroutine") = false := by kernel_rfl) (hlen : Nat.ble args.length fn.ntmps = true := by kernel_rfl) (hpl : M8 H = true := by kernel_rfl) : Spec P f args H res H' := by
  obtain ⟨c, hc⟩ := Option.isSome_iff_exists.1 hb
  have e : O2 fn = c := by unfold O2; rw [hc]
  refine Ol hf hc hname hlen (fun Γ hn hΓ => ?_) hpl; have := k Γ ⟨hn, hm, hΓ⟩; rw [e] at this; exact Vk (Cx this)
theorem Vq{st st':St}(h:st=st'):Le Γ st st':=h▸Le.refl Γ st
def Vo:D0→Bool | .run (.loop _) _=>true|_=>false
def Wj:D0→D0
 | .run (.loop c) _=>V9 c []
 | x=>x
def W2(e:Exit):D0→D0
 | .run _ fs=>X0 e fs
 | x=>x
def W3{α:Type}(k:Nat)(x:α):List (Nat×α)→List (Nat×α)
 | []=>[(k,x)]
 | (k',y)::l=>bif Nat.beq k k' then(k,x)::l else bif Nat.blt k k' then(k,x)::(k',y)::l else(k',y)::W3 k x l
def Ul{α:Type}:List (Nat×α)→List (Nat×α)→List (Nat×α)
 | [],l=>l
 | (k,x)::r,l=>Ul r (W3 k x l)
def Lv(st:St)(ts:List (Nat×AV))(os:List (Nat×Own))(fs:List (Nat×Rx):=[]):St:=⟨Ul ts st.tmps,Ul os st.own,Ul fs st.fam⟩
def Wb(live names:List Nat)(st:St)(ts:List (Nat×AV))(os:List (Nat×Own))(fs:List (Nat×Rx):=[]):St:=Cb live names (Lv st ts os fs)
theorem gL{S X:Type}{x:D0}{st:St}{n:Nat}{Hf:List (Nat×Own)}(q:RgQ P Γ n Hf){f:S→Option (LR S X)}{s0:S}{y:X}(hx:Bh f s0=some y)(live names:List Nat)(H:St→S→St)(KX:St→X→Exit→St→Prop)
  (kb:∀ s y,f s=some y→GG P Γ (Nc Γ (H (Cb live names st)) (KX (Cb live names st)) y) (Wj x) (H (Cb live names st) s)) (ko:∀ e st',KX (Cb live names st) y e st'→GG P Γ K (W2 e x) st')
  (h0:Cb live names st=H (Cb live names st) s0:=by kernel_rfl) (hl:Vo x=true:=by kernel_rfl) (hh:(Hf.all fun x=>Co x.1 names)=true:=by kernel_rfl):GG P Γ K x st:=by
 cases x with
 | out e fs=>cases hl
 | run c fs=>
  cases c with
  | loop c=>
   refine Se (st':=H (Cb live names st) s0) ?_ (Sf (H (Cb live names st)) f (KX (Cb live names st)) (fun s y hy=>Cx (kb s y hy)) hx fun e st' hk=>Ic (ko e st' hk));rw[← h0];exact Fd live names q rfl hh
  | _=>cases hl
theorem gA{x:D0}{f:Exit→D0→D0}{e0:Exit}{og:St}
  (k:GG P Γ K (f e0 x) og)
  (hr:U6 (f e0 x)=true:=by kernel_rfl):∀ e st',aG Γ e0 og e st'→GG P Γ K (f e x) st':=by
 rintro e st' ⟨rfl,hl⟩;exact U5 hl k hr
theorem X1{x:D0}{f:Exit→D0→D0}{e0:Exit}{og:St}(k:∀ st',Le Γ st' og→GG P Γ K (f e0 x) st'):∀ e st',aG Γ e0 og e st'→GG P Γ K (f e x) st':=by
 rintro e st' ⟨rfl,hl⟩;exact k st' hl
theorem Tt{x:D0}{f:Exit→D0→D0}{K':Exit→St→Prop}(k:∀ st',K' .ret st'→GG P Γ K (f .ret x) st'):∀ e st',aR K' e st'→GG P Γ K (f e x) st':=by
 rintro e st' ⟨rfl,hl⟩;exact k st' hl
def Wr:D0→Bool | .run (.seq _ _) _=>true|_=>false
def Wq:D0→D0
 | .run (.seq a _) _=>V9 a []
 | x=>x
def W4(e:Exit):D0→D0
 | .run (.seq _ b) fs=>X0 e (.nx b::fs)
 | x=>x
theorem gJ{X:Type}{x:D0}{st:St}{m:Option X}{y:X}(hx:m=some y)(KX:X→Exit→St→Prop)
  (kb:∀ y,m=some y→GG P Γ (KX y) (Wq x) st) (ko:∀ e st',KX y e st'→GG P Γ K (W4 e x) st')
  (hs:Wr x=true:=by kernel_rfl):GG P Γ K x st:=by
 cases x with
 | out e fs=>cases hs
 | run c fs=>
  cases c with
  | seq a b=>exact Pv (Sd KX hx (fun y hy=>Cx (kb y hy)) fun e st' hk=>Ic (ko e st' hk))
  | _=>cases hs
def T9:D0→Bool | .run (.scope _) _=>true|_=>false
def W6:D0→Code | .run (.scope c) _=>c|_=>.skip
def Ws(c:Code)(l:Nat):D0:=V9 ((findLabel c l).getD .skip) []
theorem gS{S X:Type}{x:D0}{st:St}{f0:Option (LR S X)}{f:S→Option (LR S X)}{y:X}(hx:E7 f0 f=some y)(lab:S→Nat)(H:S→St)(KX:X→Exit→St→Prop)
  (k0:∀ y,f0=some y→GG P Γ (Kl Γ (W6 x) lab H KX y) (V9 (W6 x) []) st) (kb:∀ s y,f s=some y→GG P Γ (Kl Γ (W6 x) lab H KX y) (Ws (W6 x) (lab s)) (H s)) (ko:∀ e st',KX y e st'→GG P Γ K (W2 e x) st')
  (hs:T9 x=true:=by kernel_rfl):GG P Γ K x st:=by
 cases x with
 | out e fs=>cases hs
 | run c fs=>
  cases c with
  | scope c=>
   refine Qt lab H f0 f KX (fun y hy=>Cx (k0 y hy)) (fun s y rest hf hy=>?_) hx fun e st' hk=>Ic (ko e st' hk);have:=kb s y hy;unfold Ws W6 at this;rw[hf]at this;exact Cx this
  | _=>cases hs
theorem Yn{S X:Type}{x:D0}{st:St}{c:Code}{lab:S→Nat}{H:S→St}{KX:X→Exit→St→Prop}{s':S}(h:Le Γ st (H s'))(hx:x = .out (.goto (lab s')) []:=by kernel_rfl)(hf:(findLabel c (lab s')).isSome=true:=by kernel_rfl) :
  GG P Γ (Kl Γ c lab H KX (.next s')) x st:=by
 subst hx;exact⟨rfl,hf,h⟩
theorem V8{S X:Type}{x:D0}{st:St}{c:Code}{lab:S→Nat}{H:S→St}{KX:X→Exit→St→Prop}{y:X}{e:Exit}(h:KX y e st)(hx:x = .out e []:=by kernel_rfl)
  (hf:(match e with | .goto l=>(findLabel c l).isNone|_=>true)=true:=by kernel_rfl):GG P Γ (Kl Γ c lab H KX (.done y)) x st:=by
 subst hx;refine⟨?_,h⟩;rintro l rfl
 simpa using hf
theorem Wu{α:Type}{st:St}(U:α→St→St){a b:α}(h:a=b)(h1:st=U a st:=by kernel_rfl):Le Γ st (U b st):=by subst h;exact Vq h1
def Own.withF(g:Nat→List AV):Own→Own
 | .arr sz e n _=>.arr sz e n g
 | o=>o
def U3(st:St)(nm:Nat):Option (Nat×(Nat→List AV)):=match Ab st.own nm with|some (.arr _ _ n f)=>some (n,f)|_=>none
def W7(nm:Nat)(g:Nat→List AV)(st:St):St:=⟨st.tmps,(match Ab st.own nm with|some o=>C9 st.own nm (o.withF g)|none=>st.own),st.fam⟩
theorem Ky{nm sz n:Nat}{e:TypeId}{f g:Nat→List AV}(hp:∀ k,k<n→AVleL (f k) (g k)):∀{l:List (Nat×Own)},Ab l nm=some (.arr sz e n f)→OwnsLe l (C9 l nm (.arr sz e n g))
 | [],h=>by cases h
 | (k,o)::l,h=>by
  simp only[Ab]at h;simp only[C9]
  cases hb:Nat.beq k nm with
  | true=>
   obtain rfl:=Nat.eq_of_beq_eq_true hb;rw[hb]at h;simp only[cond_true,Option.some.injEq]at h;subst h;exact .arr hp (.refl _)
  | false=>
   rw[hb]at h;exact .same (Ky hp h)
theorem Wt{st:St}(nm:Nat){n:Nat}{f g:Nat→List AV}(hp:∀ k,k<n→AVleL (f k) (g k))(h:U3 st nm=some (n,f):=by kernel_rfl):Le Γ st (W7 nm g st):=by
 unfold U3 at h;unfold W7
 cases ho:Ab st.own nm with
 | none=>rw[ho]at h;cases h
 | some o=>
  rw[ho]at h
  cases o with
  | arr sz e n' f'=>
   simp only[Option.some.injEq,Prod.mk.injEq]at h;obtain⟨rfl,rfl⟩:=h;exact Wv (TmpsLe.refl _) (Ky hp ho)
  | _=>cases h
theorem gI(g:Bool):g=true→g=true:=id
theorem Hu(c:Bool):c=true→(c==true)=true:=gT
theorem Sr(c:Bool):c=false→(c==false)=true:=gF
theorem Es{α:Type}(sz:Nat)(e:α→List AV)(d:α)(l:List α):AVle (.slice sz l.length (fun i=>(l.map e).getD i []) .exact) (AV.list sz e d l .exact):=J8 rfl fun i h=>Uc l i h
theorem Cz{α:Type}(sz:Nat)(e:α→List AV)(d:α):AVle (.slice 0 0 (fun _=>[]) .exact) (AV.list sz e d [] .exact):=Oy
theorem Gz{α:Type}(sz nm:Nat)(e:α→List AV)(d:α)(l m:List α):AVle (.slice sz (l.length+m.length) (Dl l.length (fun i=>e (l.getD i d)) (fun i=>e (m.getD i d))) (.own nm)) (AV.list sz e d (l++m) (.own nm)):=Vj
theorem Ng{st st':St}(h:st=st':=by kernel_rfl):Le Γ st st':=h▸Le.refl Γ st
theorem ci{p q:Prop}(a:p)(b:q):p∧q:=⟨a,b⟩
theorem c1{p:Prop}(a:p):p∧True:=⟨a,trivial⟩
end
set_option maxRecDepth 100000
set_option maxHeartbeats 2000000
def eB(x:Bool):List AV:=[(.bool x)]
def B6(x:Int):List AV:=[(.int .u64 x)]
def Xy(x:Int):List AV:=[(.int .i64 x)]
def Wo(x:List Int):List AV:=[(AV.list 1 B6 0 x .none)]
structure TDo where
 Write:Bool
 At:Int
 Bits:Int
 N:Int
 List:List Int
 deriving Inhabited,DecidableEq
def eTDo(x:TDo):List AV:=[(.bool x.Write),(.int .u64 x.At),(.int .i64 x.Bits),(.int .i64 x.N),(AV.list 1 B6 0 x.List .none)]
def eU8(x:Int):List AV:=[(.int .u8 x)]
def Xz(x:List Int):List AV:=[(AV.list 1 eU8 0 x .none)]
structure Aa where
 Write:Bool
 At:Int
 Byte:Int
 deriving Inhabited,DecidableEq
def Ah(x:Aa):List AV:=[(.bool x.Write),(.int .u64 x.At),(.int .u8 x.Byte)]
structure J3 where
 bytes:List Int
 trace:List Aa
 deriving Inhabited,DecidableEq
theorem mix:Try.prog.follows .mixedOrders=true:=by kernel_rfl
def Q3:AV:=(AV.list 1 eU8 0 ([]:List Int) .exact)
def Q4:=(⟨[(2,(.vsl 36002 ([]:List Int).length))],[(36002,.arr 1 5 (([]:List Int).length) (fun i=>eU8 (([]:List Int).getD i 0)))],[]⟩:St)
def Z1:=fun za (zb:List Int) zc zd=>([(30000,.row za [(.vsl 35000 zb.length),(AV.list 3 Ah default zc (.own 37001))]),(37001,.tok 3 49 zd),(35000,.arr 1 5 zb.length (fun i=>eU8 (zb.getD i 0)))]:List (Nat×Own))
def Z2:=fun za zb zc (zd:List Int) zf zg zm=>([(za,.row zb [(.vsl zc zd.length),(AV.list 3 Ah default zf (.own zg))]),(zc,.arr 1 5 zd.length (fun i=>eU8 (zd.getD i 0))),(zg,.tok 3 49 zm)]:List (Nat×Own))
def Z3:=fun za zb zc zd zf zg=>((za,.row zb [(.vsl zc zd),(AV.list 3 Ah default zf (.own zg))]):Nat×Own)
def Z4:=fun za (zb:List Int)=>((za,.arr 1 5 zb.length (fun i=>eU8 (zb.getD i 0))):Nat×Own)
def Z5:=fun za zb zc zd=>([(za,(AV.list 3 Ah default zb .exact)),(zc,(AV.list 3 Ah default (zd++zb) (.own 37001)))]:List (Nat×AV))
def Z6:=fun za zb zc zd zf=>(⟨[(30000,30000),(37001,37001),(35000,35000)],[],(.bool za),(Z1 zb zc zd zf),[]⟩:Hp)
def Z7:=fun za zb zc zd zf zg zm zn zp zq zt zv=>(⟨[(za,30000),(zb,37001),(zc,35000)],[(20000,zd)],(.tuple [(AV.list 1 B6 0 zf (.own 20000)),(.int .i64 zg)]),[(Z3 30000 zm 35000 zn zp 37001),(37001,.tok 3 49 zq),(Z4 35000 zt),(20000,.tok 1 33 zv)],[]⟩:Hp)
def Z8:=fun za zb zc zd zf=>([(6008,.tok 1 33 (([]:List Int).length)),(Z3 30000 za 35000 zb zc 37001),(Z4 35000 zd),(37001,.tok 3 49 zf)]:List (Nat×Own))
def Z9:=fun za zb zc zd zf=>([(za,.tok 1 33 (([]:List Int).length)),(30000,.row 32 zb),(35000,.arr 1 5 zc zd),(37001,.tok 3 49 zf)]:List (Nat×Own))
def Vf:=(⟨[],[],(.bool false),[],[]⟩:Hp)
def E8:=fun za=>((.int .i64 za):AV)
def Xs:=fun za zb=>(⟨[(11,30000),(60011001,37001),(60011000,35000)],[(20000,75)],za,zb,[]⟩:Hp)
def Xh:=((AV.list 3 Ah default ([]:List Aa) .exact):AV)
def Xi:=((8,(AV.list 1 B6 0 ([]:List Int) (.own 6008))):Nat×AV)
def Yl:=fun za zb=>(⟨[(26,30000),(60026001,37001),(60026000,35000)],[(20000,145)],(AV.list 1 eU8 0 za (.own 20000)),zb,[]⟩:Hp)
def Io:=fun za zb=>((za,.tok 3 49 zb):Nat×Own)
def Xt:=fun za zb=>(⟨[(11,30000),(60011001,37001),(60011000,35000)],[],(.bool za),zb,[]⟩:Hp)
def Uz:=fun za=>([(AV.list 1 eU8 0 za .none)]:List AV)
def V7:=((9,(.int .i64 (8:Int))):Nat×AV)
def Ty:=((.int .i64 (1:Int)):AV)
def Xu:=((.slice 1 0 (fun i=>([]:List (List AV)).getD i []) .exact):AV)
def Wi:=fun za zb=>((AV.list 3 Ah default za (.own zb)):AV)
def Xv:=fun za zb zc zd zf zg zm=>([(za,.tok 1 33 zb),(Z3 30000 zc 35000 zd zf 37001),(Z4 35000 zg),(Io 37001 zm)]:List (Nat×Own))
def U0:=((.int .u64 (3:Int)):AV)
def U1:=((.int .i64 (0:Int)):AV)
def Xw:=((AV.list 3 Ah default ([]:List Aa) .none):AV)

def A3(aB:List Int):Option (List Int):=
 (Db (aB.length≤room) (some aB))
theorem Cp(aB:List Int)(r:List Int)(h:A3 aB=some r):Spec Try.prog 24 [(AV.list 1 eU8 0 aB .none)] [] (.vsl 20000 r.length) [(20000,.arr 1 5 r.length (fun i=>eU8 (r.getD i 0)))]:=by
 refine A7 mix Try.func24 (fun Γ hq=>?_);unfold A3 at h;refine gR hq [0] [] [(2,Q3)] [] (c1 (Cz 1 eU8 (0:Int))) ?_;refine Br hq [0,4] [] ?_;refine Wp true aB.length (fun hb=>?_) (fun hb=>?_)
 ·replace h:=S1 (some ([]:List Int)) (fun(l2:List Int)=>(Db (l2.length≤room) (some l2))) h (hb rfl) rfl (fun h0=>by first|exact h0|simpa [Db,room] using h0);clear hb;refine gR hq [2] [] [(2,Q3)] [] (c1 (Cz 1 eU8 (0:Int))) ?_;refine T5 (⟨[(2,Q3)],[],[]⟩:St) ?_;cases h;exact gK (e:=.ret) (Ke [(36002,20000)] (show Le Γ _ Q4 from Le.trans (Fd (st':=⟨[(2,Q3)],[],[]⟩) [2] [] hq) (Le.trans (Vp (t:=2) (nm:=36002) (sz':=1) (fun i=>eU8 (([]:List Int).getD i 0)) 5 rfl rfl) (Fd (st':=Q4) [2] [36002] hq))))
 ·clear hb;obtain⟨hc1,h⟩:=Ad h;refine gR hq [2] [7] [(5,Q3),(7,.vsl 7 0)] [] (ci (show(AVle Xu Q3) from J8 rfl (fun i hi=>absurd hi (Nat.not_lt_zero i))) (c1 hc1)) ?_;obtain rfl:=OI h;exact F2 [(7,20000)]
def Q6(x1:List Int):List AV:=[(.vsl 8 x1.length),Xh]
def Q7(x1:List Int):=(⟨[(2,(.ptr 10 0)),(3,U1)],[(8,.arr 1 5 x1.length (fun i=>eU8 (x1.getD i 0))),(10,.row 63 (Q6 x1))],[]⟩:St)
def Q5(x1:List Int):=(⟨[(2,(.ptr 10 0)),(3,U1)],[(8,.arr 1 5 x1.length (fun i=>eU8 (x1.getD i 0))),(10,.row 63 [(.vsl 8 x1.length),(AV.list 3 Ah default ([]:List Aa) (.own 6102001))]),(6102001,.tok 3 49 (([]:List Aa).length))],[]⟩:St)
def Df(a3:List Int):Option ((Bool×J3)×Int):=
 (bif (decide (((4096:Int):Int)<(a3.length:Int))) then(some ((false,(default:J3)),(4:Int))) else((A3 a3).bind fun x1=>(some ((true,(⟨x1,([]:List Aa)⟩:J3)),(0:Int)))))
theorem Ft(a3:List Int)(r:((Bool×J3)×Int))(h:Df a3=some r):Spec Try.prog 10 [(AV.list 1 eU8 0 a3 .none)] [] (.tuple [(bif r.1.1 then((.ptr 20000 0):AV) else .nilp),(.int .i64 r.2)]) (bif r.1.1 then[(20000,.row 63 [(.vsl 21000 r.1.2.bytes.length),(AV.list 3 Ah default r.1.2.trace (.own 21001))]),(21000,.arr 1 5 r.1.2.bytes.length (fun i=>eU8 (r.1.2.bytes.getD i 0))),(21001,.tok 3 49 r.1.2.trace.length)] else[]):=by
 refine A7 mix Try.func10 (fun Γ hq=>?_);unfold Df at h;refine Br hq [0] [] ?_;refine Br hq [0,6] [] ?_;refine gC h (fun h=>?_) (fun h=>?_)
 ·refine Br hq [2,3] [] ?_;cases h;exact F2 []
 ·obtain⟨x1,hx1,h⟩:=bind_some h;refine gR hq [2,3] [8,10] [(9,(.agg (Q6 x1)))] [⟨[],[(20000,8)],(.vsl 20000 x1.length),[(Z4 20000 x1)],[]⟩] (ci (Cp a3 x1 hx1) (c1 (show(AVle (.agg [(.vsl 8 x1.length),(.slice 0 0 (fun _=>[]) .exact)]) (.agg (Q6 x1))) from(AVle.agg (.cons (AVle.refl _) (.cons Oy .nil)))))) ?_;refine T5 (Q7 x1) ?_;cases h;exact gK (e:=.ret) (Ke [(10,20000),(8,21000),(6102001,21001)] (show Le Γ _ (Q5 x1) from Le.trans (Fd (st':=(Q7 x1)) [2,3] [8,10] hq) (Le.trans (Jg (r:=10) (j:=1) (nm:=6102001) (sz':=3) (fun i=>Ah (([]:List Aa).getD i default)) 49 rfl rfl (nl rfl) rfl (.inl ⟨rfl,rfl⟩) (fun h_=>absurd h_ (by decide))) (Fd (st':=(Q5 x1)) [2,3] [8,10,6102001] hq))))
def Cs(a7:Int):Option Int:=
 (Option.bind (α:=Bool) (bif (a7==8) then(some (a7==8)) else(bif (a7==16) then(some (a7==16)) else(bif (a7==32) then(some (a7==32)) else(some (a7==64))))) (fun x2=>(bif x2 then(some (Bg (Int.tdiv a7 (8:Int)))) else(some (0:Int)))))
theorem Gh(a7:Int)(r:Int)(h:Cs a7=some r):Spec Try.prog 25 [(.int .i64 a7)] [] (.int .i64 r) []:=by
 refine A7 mix Try.func25 (fun Γ hq=>?_);unfold Cs at h;refine Br hq [0] [] ?_;refine Br hq [0,3] [] ?_;obtain⟨x2,hx2,h⟩:=bind_some h;refine gJ hx2 (fun b1=>aG Γ .normal (⟨[(0,(E8 a7)),(4,(.bool b1))],[],[]⟩:St)) ?_ ?_
 ·clear h hx2;intro y h;refine Br hq [0,3,4] [] ?_;refine gC h (fun h=>?_) (fun h=>?_)
  ·cases h;exact gK (J5 (Fd [0,4] [] hq))
  ·refine Br hq [0,3,4] [] ?_;refine gC h (fun h=>?_) (fun h=>?_)
   ·cases h;exact gK (J5 (Fd [0,4] [] hq))
   ·refine Br hq [0,3,4] [] ?_;refine gC h (fun h=>?_) (fun h=>?_)
    ·cases h;exact gK (J5 (Fd [0,4] [] hq))
    ·refine Br hq [0,4] [] ?_;cases h;exact gK (J5 Ng)
 ·clear hx2;refine gA ?_;refine gC h (fun h=>?_) (fun h=>?_)
  ·refine gR hq [2] [] [] [] (c1 (show((8:Int)≠0) from(by decide))) ?_;cases h;exact F2 []
  ·refine Br hq [2] [] ?_;cases h;exact F2 []
def Q8(a6:Int):=((bif false then true else(decide (a6<1)))==false)
def Bj(a5:Int)(a6:Int)(a0:List Int)(a1:List Aa):Option (Bool×List Aa×List Int):=
 (bif (bif (bif false then true else(decide (a6<1))) then true else(decide (((a0.length:Int):Int)<a6))) then(some (false,a1,a0)) else(some ((decide (a5≤(Ao (Bg ((a0.length:Int)-a6))))),a1,a0)))
theorem B7(a5:Int)(a6:Int)(a0:List Int)(a1:List Aa)(r:(Bool×List Aa×List Int))(h:Bj a5 a6 a0 a1=some r):Spec Try.prog 16 [(.ptr 30000 0),(.int .u64 a5),(.int .i64 a6)] [(30000,.row 63 [(.vsl 35000 a0.length),(AV.list 3 Ah default a1 (.own 37001))]),(37001,.tok 3 49 a1.length),(35000,.arr 1 5 a0.length (fun i=>eU8 (a0.getD i 0)))] (.bool r.1) [(30000,.row 63 [(.vsl 35000 r.2.2.length),(AV.list 3 Ah default r.2.1 (.own 37001))]),(37001,.tok 3 49 r.2.1.length),(35000,.arr 1 5 r.2.2.length (fun i=>eU8 (r.2.2.getD i 0)))]:=by
 refine A7 mix Try.func16 (fun Γ hq=>?_);unfold Bj at h;refine Br hq [0,1,2] [30000,35000,37001] ?_;refine gR hq [0,1,2,21] [30000,35000,37001] [] [] (ci (gI (false==false)) (ci (Sr false) (ci (gI (Q8 a6)) (ci (gI (Q8 a6)) (ci (gI (Q8 a6)) (ci (gI (Q8 a6)) (ci (gI (Q8 a6)) (ci (gI (Q8 a6)) (c1 (Sr (bif false then true else(decide (a6<1))))))))))))) ?_;refine gC h (fun h=>?_) (fun h=>?_)
 ·refine Br hq [6] [30000,35000,37001] ?_;cases h;exact F2 [(30000,30000),(37001,37001),(35000,35000)]
 ·refine Br hq [6] [30000,35000,37001] ?_;cases h;exact F2 [(30000,30000),(37001,37001),(35000,35000)]
def Bf(a9:Int):(Int×Int×Int×List Aa×List Int)→Option (LR (Int×Int×Int×List Aa×List Int) (List Aa×List Int)):=
 fun((i1,i2,i3,l4,l5):(Int×Int×Int×List Aa×List Int))=>(bif (decide (i3<a9)) then(Db (E2 i1 l5.length) (Db (l4.length+([(⟨true,i1,(Nf i2)⟩:Aa)]:List Aa).length≤room) (some (.next ((Ao (i1+1)),(Tj .u64 i2 (8:Int)),(Bg (i3+1)),(l4++([(⟨true,i1,(Nf i2)⟩:Aa)]:List Aa)),(l5.set i1.toNat (Nf i2))))))) else(some (.done (l4,l5))))
def Q9(i1:Int)(i2:Int):=([(⟨true,i1,(Nf i2)⟩:Aa)]:List Aa)
def Ca(a5:Int)(a9:Int)(aE:Int)(a0:List Int)(a1:List Aa):Option (List Aa×List Int):=
 ((Bh (Bf a9) (a5,aE,(0:Int),a1,a0)).bind (fun(l6,l7)=>(some (l6,l7))))
theorem Hc(a5:Int)(a9:Int)(aE:Int)(a0:List Int)(a1:List Aa)(r:(List Aa×List Int))(h:Ca a5 a9 aE a0 a1=some r):Spec Try.prog 26 [(.ptr 30000 0),(.int .u64 a5),(.int .i64 a9),(.int .u64 aE)] [(30000,.row 63 [(.vsl 35000 a0.length),(AV.list 3 Ah default a1 (.own 37001))]),(37001,.tok 3 49 a1.length),(35000,.arr 1 5 a0.length (fun i=>eU8 (a0.getD i 0)))] (.tuple []) [(30000,.row 63 [(.vsl 35000 r.2.length),(AV.list 3 Ah default r.1 (.own 37001))]),(37001,.tok 3 49 r.1.length),(35000,.arr 1 5 r.2.length (fun i=>eU8 (r.2.getD i 0)))]:=by
 refine A7 mix Try.func26 (fun Γ hq=>?_);unfold Ca at h;refine Br hq [0,1,3,9,10] [30000,35000,37001] ?_;obtain⟨x10,hx10,h⟩:=bind_some h;refine gL hq hx10 [0,1,3,9,10] [30000,35000,37001] (fun u (i1,i2,i3,l4,l5)=>(Lv u [(1,(.int .u64 i1)),(3,(.int .u64 i2)),(10,(E8 i3))] (Z2 30000 63 35000 l5 l4 37001 l4.length))) (fun u (l6,l7)=>aG Γ (.exit 0) (⟨[],(Z2 30000 63 35000 l7 l6 37001 l6.length),[]⟩:St)) ?_ ?_
 ·rintro⟨i1,i2,i3,l4,l5⟩ y h;unfold Bf at h;refine Br hq [0,1,3,9,10,11] [30000,35000,37001] ?_;refine gC h (fun h=>?_) (fun h=>?_)
  ·refine Br hq [0,1,3,8,9,10] [30000,35000,37001] ?_;obtain⟨hc8,h⟩:=Ad h;refine gR hq [0,1,3,8,9,10] [30000,35000,37001] [] [] (ci hc8 (c1 (Eq.refl l5.length))) ?_;refine U5 (Le.trans (Wt 35000 (show ∀ k_,k_<l5.length→AVleL ((fun i_=>AV.eraseAll (fun n_=>Co n_ [30000,35000,37001]) ((I4 (fun i=>eU8 (l5.getD i 0)) i1.toNat 0 [(.int .u8 (Nf i2))]) i_)) k_) ((fun i=>eU8 ((l5.set i1.toNat (Nf i2)).getD i 0)) k_) from(G4 (List.length_set ..).symm (fun k_ hk_=>(congrArg (AV.eraseAll (fun n_=>Co n_ [30000,35000,37001])) ((Ig (fun _ _=>rfl) (Jy hc8) rfl) k_ hk_)).trans rfl)))) (Wu (fun(k_:Nat) u=>(Lv u [] [(Z3 30000 63 35000 k_ l4 37001),(35000,.arr 1 5 k_ (fun i=>eU8 ((l5.set i1.toNat (Nf i2)).getD i 0)))])) (show l5.length=(l5.set i1.toNat (Nf i2)).length from(List.length_set ..).symm))) ?_;obtain⟨hc9,h⟩:=Ad h;refine gR hq [0,1,3,9,10] [30000,35000,37001] (Z5 29 (Q9 i1 i2) 30 l4) [] (ci (Es 3 Ah (default:Aa) (Q9 i1 i2)) (ci (Eq.refl l4.length) (ci hc9 (ci (Gz 3 37001 Ah (default:Aa) l4 (Q9 i1 i2)) (c1 (G5 l4 (Q9 i1 i2))))))) ?_;refine gR hq [0,1,3,9,10] [30000,35000,37001] [] [] (c1 (show(0≤(8:Int)) from(by decide))) ?_;refine Br hq [0,1,3,9,10] [30000,35000,37001] ?_;refine Br hq [0,1,3,9,10] [30000,35000,37001] ?_;cases h;exact gN Ng
  ·cases h;exact gO (J5 (Fd [] [30000,35000,37001] hq))
 ·clear hx10;rcases x10 with⟨l6,l7⟩;refine X1 (fun st' hl11=>?_);cases h;exact gK (e:=.normal) (Ke [(30000,30000),(37001,37001),(35000,35000)] hl11)
def Bn(aC:List Int)(x3:Int):(Int×Int×List Aa×List Int)→Option (LR (Int×Int×List Aa×List Int) ((List Aa×List Int) ⊕ (List Aa×List Int))):=
 fun((i4,i5,l6,l7):(Int×Int×List Aa×List Int))=>(bif (decide (i5<(aC.length:Int))) then(Db (E2 i5 aC.length) ((Bj i4 x3 l7 l6).bind fun x13=>(Db (l7.length=x13.2.2.length) (bif (!x13.1) then(some (.done (.inr (x13.2.1,x13.2.2)))) else((Ca i4 x3 (aC.getD i5.toNat 0) x13.2.2 x13.2.1).bind fun x15=>(Db (x13.2.2.length=x15.2.length) (some (.next ((Ao (i4+(Ao x3))),(Bg (i5+1)),x15.1,x15.2))))))))) else(some (.done (.inl (l6,l7)))))
def Ee :(List Aa×List Int)→Option (LR (List Aa×List Int) (Int×List Aa×List Int)):=
 fun(s_:(List Aa×List Int))=>match s_ with|(l1,l2)=>(some (.done ((8:Int),l1,l2)))
def Js(Γ:Dd)(a5:Int)(a7:Int)(aC:List Int)(a0:List Int)(a1:List Aa)(r:(Int×List Aa×List Int)):Exit→St→Prop:=fK Try.prog Γ Try.f11.results.toList (Z1 63 a0 a1 a1.length) (E8 r.1) (Z1 63 r.2.2 r.2.1 r.2.1.length)
def Cg(a5:Int)(a7:Int)(aC:List Int)(a0:List Int)(a1:List Aa):Option (Int×List Aa×List Int):=
 ((E7 (S:=(List Aa×List Int)) (X:=(Int×List Aa×List Int)) ((Cs a7).bind fun x3=>(bif (bif (x3==0) then true else(decide (((16:Int):Int)<(aC.length:Int)))) then(some (.done ((1:Int),a1,a0))) else((Bh (Bn aC x3) (a5,(0:Int),a1,a0)).bind (fun x17=>(match x17 with|(.inl (l8,l9))=>(some (.done ((0:Int),l8,l9)))|(.inr (l10,l11))=>(some (.next (l10,l11)))))))) Ee).bind (fun x20=>(some x20)))
theorem Fe(a5:Int)(a7:Int)(aC:List Int)(a0:List Int)(a1:List Aa)(r:(Int×List Aa×List Int))(h:Cg a5 a7 aC a0 a1=some r):Spec Try.prog 11 [(.ptr 30000 0),(.int .u64 a5),(.int .i64 a7),(AV.list 1 B6 0 aC .none)] [(30000,.row 63 [(.vsl 35000 a0.length),(AV.list 3 Ah default a1 (.own 37001))]),(37001,.tok 3 49 a1.length),(35000,.arr 1 5 a0.length (fun i=>eU8 (a0.getD i 0)))] (.int .i64 r.1) [(30000,.row 63 [(.vsl 35000 r.2.2.length),(AV.list 3 Ah default r.2.1 (.own 37001))]),(37001,.tok 3 49 r.2.1.length),(35000,.arr 1 5 r.2.2.length (fun i=>eU8 (r.2.2.getD i 0)))]:=by
 refine A7 mix Try.func11 (fun Γ hq=>?_);unfold Cg at h;refine Br hq [0,1,2,3] [30000,35000,37001] ?_;obtain⟨x20,hx20,h⟩:=bind_some h;refine gS hx20 (fun(s_:(List Aa×List Int))=>match s_ with|(l1,l2)=>0) (fun(s_:(List Aa×List Int))=>match s_ with|(l1,l2)=>(⟨[],(Z2 30000 63 35000 l2 l1 37001 l1.length),[]⟩:St)) (fun r_=>aR (Js Γ a5 a7 aC a0 a1 r_)) ?_ ?_ ?_
 ·clear h hx20;intro y h;obtain⟨x3,hx3,h⟩:=bind_some h;refine gR hq [0,1,3,9] [30000,35000,37001] [] [⟨[],[],(E8 x3),[],[]⟩] (c1 (Gh a7 x3 hx3)) ?_;refine gR hq [0,1,3,9,20] [30000,35000,37001] [] [] (ci (gI ((x3==0)==false)) (ci (gI ((x3==0)==false)) (c1 (Sr (x3==0))))) ?_;refine gC h (fun h=>?_) (fun h=>?_)
  ·refine Br hq [8] [30000,35000,37001] ?_;cases h;exact V8 (Nm (Ke [(30000,30000),(37001,37001),(35000,35000)] (Le.refl _ _)))
  ·refine Br hq [0,1,9,21,22,23] [30000,35000,37001] ?_;obtain⟨x17,hx17,h⟩:=bind_some h;refine gL hq hx17 [0,1,9,21,22,23] [30000,35000,37001] (fun u (i4,i5,l6,l7)=>(Lv u [(1,(.int .u64 i4)),(23,(E8 i5))] (Z2 30000 63 35000 l7 l6 37001 l6.length))) (fun u x_=>match x_ with|(.inl (l8,l9))=>aG Γ (.exit 0) (⟨[],(Z2 30000 63 35000 l9 l8 37001 l8.length),[]⟩:St)|(.inr (l10,l11))=>aG Γ (.goto 0) (⟨[],(Z2 30000 63 35000 l11 l10 37001 l10.length),[]⟩:St)) ?_ ?_
   ·rintro⟨i4,i5,l6,l7⟩ y h;unfold Bn at h;refine Br hq [0,1,9,21,22,23,24] [30000,35000,37001] ?_;refine gC h (fun h=>?_) (fun h=>?_)
    ·obtain⟨hc12,h⟩:=Ad h;refine gR hq [0,1,9,11,21,22,23] [30000,35000,37001] [] [] (c1 hc12) ?_;obtain⟨x13,hx13,h⟩:=bind_some h;obtain⟨hc14,h⟩:=Ad h;refine gR hq [0,1,9,11,21,22,23,31] [30000,35000,37001] [] [(Z6 x13.1 63 x13.2.2 x13.2.1 x13.2.1.length)] (c1 (B7 i4 x3 l7 l6 x13 hx13)) ?_;refine gC h (fun h=>?_) (fun h=>?_)
     ·cases h;exact gO (J5 (Fd [] [30000,35000,37001] hq))
     ·obtain⟨x15,hx15,h⟩:=bind_some h;obtain⟨hc16,h⟩:=Ad h;refine gR hq [0,1,9,21,22,23] [30000,35000,37001] [] [⟨[(30000,30000),(37001,37001),(35000,35000)],[],(.tuple []),(Z1 63 x15.2 x15.1 x15.1.length),[]⟩] (c1 (Hc i4 x3 (aC.getD i5.toNat 0) x13.2.2 x13.2.1 x15 hx15)) ?_;refine Br hq [0,1,9,21,22,23] [30000,35000,37001] ?_;refine Br hq [0,1,9,21,22,23] [30000,35000,37001] ?_;cases h;exact gN Ng
    ·cases h;exact gO (J5 (Fd [] [30000,35000,37001] hq))
   ·clear hx17;rcases x17 with⟨l8,l9⟩|⟨l10,l11⟩
    ·refine gA ?_;refine Br hq [8] [30000,35000,37001] ?_;cases h;exact V8 (Nm (Ke [(30000,30000),(37001,37001),(35000,35000)] (Le.refl _ _)))
    ·refine X1 (fun st' hl19=>?_);cases h;exact Yn (Le.trans hl19 Ng)
 ·clear h hx20;rintro⟨l1,l2⟩ y h;unfold Ee at h;refine Br hq [8] [30000,35000,37001] ?_;cases h;exact V8 (Nm (Ke [(30000,30000),(37001,37001),(35000,35000)] (Le.refl _ _)))
 ·clear hx20;refine Tt (fun st' hk=>?_);obtain rfl:=OI h;exact gK hk
def Bq(a9:Int)(a0:List Int):(Int×Int×Int×List Aa)→Option (LR (Int×Int×Int×List Aa) (Int×List Aa)):=
 fun((i1,i2,i3,l4):(Int×Int×Int×List Aa))=>(bif (decide (i3<a9)) then(Db (E2 i1 a0.length) (Db (l4.length+([(⟨false,i1,(a0.getD i1.toNat 0)⟩:Aa)]:List Aa).length≤room) (Db (0≤(Bg ((8:Int)*i3))) (some (.next ((Ao (i1+1)),(Fx .or .u64 i2 (Rl .u64 (Ao (a0.getD i1.toNat 0)) (Bg ((8:Int)*i3)))),(Bg (i3+1)),(l4++([(⟨false,i1,(a0.getD i1.toNat 0)⟩:Aa)]:List Aa)))))))) else(some (.done (i2,l4))))
def W9(i1:Int)(a0:List Int):=([(⟨false,i1,(a0.getD i1.toNat 0)⟩:Aa)]:List Aa)
def Ci(a5:Int)(a9:Int)(a0:List Int)(a1:List Aa):Option (Int×List Aa×List Int):=
 ((Bh (Bq a9 a0) (a5,(0:Int),(0:Int),a1)).bind (fun(i5,l6)=>(some (i5,l6,a0))))
theorem Hw(a5:Int)(a9:Int)(a0:List Int)(a1:List Aa)(r:(Int×List Aa×List Int))(h:Ci a5 a9 a0 a1=some r):Spec Try.prog 28 [(.ptr 30000 0),(.int .u64 a5),(.int .i64 a9)] [(30000,.row 63 [(.vsl 35000 a0.length),(AV.list 3 Ah default a1 (.own 37001))]),(37001,.tok 3 49 a1.length),(35000,.arr 1 5 a0.length (fun i=>eU8 (a0.getD i 0)))] (.int .u64 r.1) [(30000,.row 63 [(.vsl 35000 r.2.2.length),(AV.list 3 Ah default r.2.1 (.own 37001))]),(37001,.tok 3 49 r.2.1.length),(35000,.arr 1 5 r.2.2.length (fun i=>eU8 (r.2.2.getD i 0)))]:=by
 refine A7 mix Try.func28 (fun Γ hq=>?_);unfold Ci at h;refine Br hq [0,1,2] [30000,35000,37001] ?_;refine Br hq [0,1,2,7] [30000,35000,37001] ?_;refine Br hq [0,1,7,10,11] [30000,35000,37001] ?_;obtain⟨x10,hx10,h⟩:=bind_some h;refine gL hq hx10 [0,1,7,10,11] [30000,35000,37001] (fun u (i1,i2,i3,l4)=>(Lv u [(1,(.int .u64 i1)),(7,(.int .u64 i2)),(11,(E8 i3))] [(Z3 30000 63 35000 a0.length l4 37001),(Io 37001 l4.length)])) (fun u (i5,l6)=>aG Γ (.exit 0) (Wb [7] [30000,35000,37001] u [(7,(.int .u64 i5))] [(Z3 30000 63 35000 a0.length l6 37001),(Io 37001 l6.length)])) ?_ ?_
 ·rintro⟨i1,i2,i3,l4⟩ y h;unfold Bq at h;refine Br hq [0,1,7,10,11,12] [30000,35000,37001] ?_;refine gC h (fun h=>?_) (fun h=>?_)
  ·refine Br hq [0,1,7,8,10,11] [30000,35000,37001] ?_;obtain⟨hc7,h⟩:=Ad h;refine gR hq [0,1,7,8,9,10,11] [30000,35000,37001] [] [] (ci hc7 (c1 (Eq.refl a0.length))) ?_;obtain⟨hc8,h⟩:=Ad h;refine gR hq [0,1,7,8,9,10,11] [30000,35000,37001] (Z5 29 (W9 i1 a0) 30 l4) [] (ci (Es 3 Ah (default:Aa) (W9 i1 a0)) (ci (Eq.refl l4.length) (ci hc8 (ci (Gz 3 37001 Ah (default:Aa) l4 (W9 i1 a0)) (c1 (G5 l4 (W9 i1 a0))))))) ?_;obtain⟨hc9,h⟩:=Ad h;refine gR hq [0,1,7,10,11] [30000,35000,37001] [] [] (c1 hc9) ?_;refine Br hq [0,1,7,10,11] [30000,35000,37001] ?_;refine Br hq [0,1,7,10,11] [30000,35000,37001] ?_;cases h;exact gN Ng
  ·cases h;exact gO (J5 (Fd [7] [30000,35000,37001] hq))
 ·clear hx10;rcases x10 with⟨i5,l6⟩;refine gA ?_;refine Br hq [6] [30000,35000,37001] ?_;cases h;exact F2 [(30000,30000),(37001,37001),(35000,35000)]
def Bs(a6:Int)(x3:Int):(Int×Int×List Int×List Aa×List Int)→Option (LR (Int×Int×List Int×List Aa×List Int) ((List Int×List Aa×List Int) ⊕ (List Aa×List Int))):=
 fun((i5,i6,l7,l8,l9):(Int×Int×List Int×List Aa×List Int))=>(bif (decide (i6<((List.replicate a6.toNat (0:Int)).length:Int))) then((Bj i5 x3 l9 l8).bind fun x15=>(Db (l9.length=x15.2.2.length) (bif (!x15.1) then(some (.done (.inr (x15.2.1,x15.2.2)))) else((Ci i5 x3 x15.2.2 x15.2.1).bind fun x17=>(Db (x15.2.2.length=x17.2.2.length) (Db (E2 i6 l7.length) (some (.next ((Ao (i5+(Ao x3))),(Bg (i6+1)),(l7.set i6.toNat x17.1),x17.2.1,x17.2.2))))))))) else(some (.done (.inl (l7,l8,l9)))))
def Ex :(List Aa×List Int)→Option (LR (List Aa×List Int) (List Int×Int×List Aa×List Int)):=
 fun(s_:(List Aa×List Int))=>match s_ with|(l1,l2)=>(some (.done (([]:List Int),(8:Int),l1,l2)))
def J2(Γ:Dd)(a5:Int)(a7:Int)(a6:Int)(a0:List Int)(a1:List Aa)(r:(List Int×Int×List Aa×List Int)):Exit→St→Prop:=fK Try.prog Γ Try.f13.results.toList (Z1 63 a0 a1 a1.length) (.tuple [(AV.list 1 B6 0 r.1 (.own 20000)),(E8 r.2.1)]) [(Z3 30000 63 35000 r.2.2.2.length r.2.2.1 37001),(Io 37001 r.2.2.1.length),(Z4 35000 r.2.2.2),(20000,.tok 1 33 r.1.length)]
def Vz:AV:=(AV.list 1 B6 0 ([]:List Int) .exact)
def Xm(l2:List Int)(l1:List Aa):List (Nat×Own):=(Z2 30000 63 35000 l2 l1 37001 l1.length)
def X9(l10:List Int)(l12:List Int)(l11:List Aa):List (Nat×Own):=[(26,.arr 1 33 l10.length (fun i=>B6 (l10.getD i 0))),(Z3 30000 63 35000 l12.length l11 37001),(Z4 35000 l12),(Io 37001 l11.length)]
def X8(a0:List Int)(a1:List Aa):=(⟨[(8,Vz),(9,Ty)],(Z2 30000 63 35000 a0 a1 37001 a1.length),[]⟩:St)
def X7(l2:List Int)(l1:List Aa):=(⟨[Xi,V7],(Z8 63 l2.length l1 l2 l1.length),[]⟩:St)
def X6(a0:List Int)(a1:List Aa):=(⟨[Xi,(9,Ty)],(Z8 63 a0.length a1 a0 a1.length),[]⟩:St)
def B9(a5:Int)(a7:Int)(a6:Int)(a0:List Int)(a1:List Aa):Option (List Int×Int×List Aa×List Int):=
 ((E7 (S:=(List Aa×List Int)) (X:=(List Int×Int×List Aa×List Int)) ((Cs a7).bind fun x3=>(bif (bif (bif (x3==0) then true else(decide (a6<0))) then true else(decide (((16:Int):Int)<a6))) then(some (.done (([]:List Int),(1:Int),a1,a0))) else(Db (0≤a6∧a6≤a6∧a6≤(room:Int)) ((Bh (Bs a6 x3) (a5,(0:Int),(List.replicate a6.toNat (0:Int)),a1,a0)).bind (fun x20=>(match x20 with|(.inl (l10,l11,l12))=>(some (.done (l10,(0:Int),l11,l12)))|(.inr (l13,l14))=>(some (.next (l13,l14))))))))) Ex).bind (fun x23=>(some x23)))
theorem D2(a5:Int)(a7:Int)(a6:Int)(a0:List Int)(a1:List Aa)(r:(List Int×Int×List Aa×List Int))(h:B9 a5 a7 a6 a0 a1=some r):Spec Try.prog 13 [(.ptr 30000 0),(.int .u64 a5),(.int .i64 a7),(.int .i64 a6)] [(30000,.row 63 [(.vsl 35000 a0.length),(AV.list 3 Ah default a1 (.own 37001))]),(37001,.tok 3 49 a1.length),(35000,.arr 1 5 a0.length (fun i=>eU8 (a0.getD i 0)))] (.tuple [(AV.list 1 B6 0 r.1 (.own 20000)),(.int .i64 r.2.1)]) [(30000,.row 63 [(.vsl 35000 r.2.2.2.length),(AV.list 3 Ah default r.2.2.1 (.own 37001))]),(37001,.tok 3 49 r.2.2.1.length),(35000,.arr 1 5 r.2.2.2.length (fun i=>eU8 (r.2.2.2.getD i 0))),(20000,.tok 1 33 r.1.length)]:=by
 refine A7 mix Try.func13 (fun Γ hq=>?_);have hΓ:=hq.own;unfold B9 at h;refine gR hq [0,1,2,3] [30000,35000,37001] [(8,Vz)] [] (c1 (Cz 1 B6 (0:Int))) ?_;obtain⟨x23,hx23,h⟩:=bind_some h;refine gS hx23 (fun(s_:(List Aa×List Int))=>match s_ with|(l1,l2)=>0) (fun(s_:(List Aa×List Int))=>match s_ with|(l1,l2)=>(⟨[],(Xm l2 l1),[]⟩:St)) (fun r_=>aR (J2 Γ a5 a7 a6 a0 a1 r_)) ?_ ?_ ?_
 ·clear h hx23;intro y h;obtain⟨x3,hx3,h⟩:=bind_some h;refine gR hq [0,1,3,10] [30000,35000,37001] [] [⟨[],[],(E8 x3),[],[]⟩] (c1 (Gh a7 x3 hx3)) ?_;refine gR hq [0,1,3,10,24] [30000,35000,37001] [] [] (ci (gI ((x3==0)==false)) (ci (Sr (x3==0)) (ci (gI ((bif (x3==0) then true else(decide (a6<0)))==false)) (c1 (Sr (bif (x3==0) then true else(decide (a6<0)))))))) ?_;refine gC h (fun h=>?_) (fun h=>?_)
  ·refine gR hq [8,9] [30000,35000,37001] [(8,Vz)] [] (c1 (Cz 1 B6 (0:Int))) ?_;refine T5 (X8 a0 a1) ?_;cases h;exact V8 (Nm (Ke [(30000,30000),(37001,37001),(35000,35000),(6008,20000)] (show Le Γ _ (X6 a0 a1) from Le.trans (Fd (st':=(X8 a0 a1)) [8,9] [30000,35000,37001] hq) (Le.trans (It (t:=8) (nm:=6008) (sz':=1) (fun i=>B6 (([]:List Int).getD i 0)) 33 rfl rfl (.inl ⟨rfl,rfl⟩) (fun h_=>absurd h_ (by decide))) (Fd (st':=(X6 a0 a1)) [8,9] [6008,30000,35000,37001] hq)))))
  ·obtain⟨hc4,h⟩:=Ad h;refine gR hq [0,1,10,11] [26,30000,35000,37001] [] [] (c1 hc4) ?_;refine U5 (Le.trans (Wt 26 (show ∀ k_,k_<(a6.toNat)→AVleL ((fun i_=>AV.eraseAll (fun n_=>Co n_ [26,30000,35000,37001]) ((fun _=>[(.int .u64 (0:Int))]) i_)) k_) ((fun i=>B6 ((List.replicate a6.toNat (0:Int)).getD i 0)) k_) from(fun k hk=>Ub (e:=B6) (d:=(0:Int)) (.cons (AVle.refl _) .nil) _ k (Uo hk)))) (Wu (fun(k_:Nat) u=>(Lv u [(11,(.vsl 26 k_))] [(26,.arr 1 33 k_ (fun i=>B6 ((List.replicate a6.toNat (0:Int)).getD i 0)))])) (show a6.toNat=(List.replicate a6.toNat (0:Int)).length from(List.length_replicate ..).symm))) ?_;refine Br hq [0,1,10,11,28,29] [26,30000,35000,37001] ?_;obtain⟨x20,hx20,h⟩:=bind_some h;refine gL hq hx20 [0,1,10,11,28,29] [26,30000,35000,37001] (fun u (i5,i6,l7,l8,l9)=>(Lv u [(1,(.int .u64 i5)),(11,(.vsl 26 l7.length)),(29,(E8 i6))] [(26,.arr 1 33 l7.length (fun i=>B6 (l7.getD i 0))),(Z3 30000 63 35000 l9.length l8 37001),(Z4 35000 l9),(Io 37001 l8.length)])) (fun u x_=>match x_ with|(.inl (l10,l11,l12))=>aG Γ (.exit 0) (⟨[(11,(.vsl 26 l10.length))],(X9 l10 l12 l11),[]⟩:St)|(.inr (l13,l14))=>aG Γ (.goto 0) (⟨[],(Z2 30000 63 35000 l14 l13 37001 l13.length),[]⟩:St)) ?_ ?_
   ·rintro⟨i5,i6,l7,l8,l9⟩ y h;unfold Bs at h;refine Br hq [0,1,10,11,28,29,30] [26,30000,35000,37001] ?_;refine gC h (fun h=>?_) (fun h=>?_)
    ·refine Br hq [0,1,10,11,12,28,29] [26,30000,35000,37001] ?_;obtain⟨x15,hx15,h⟩:=bind_some h;obtain⟨hc16,h⟩:=Ad h;refine gR hq [0,1,10,11,12,28,29,36] [26,30000,35000,37001] [] [(Z6 x15.1 63 x15.2.2 x15.2.1 x15.2.1.length)] (c1 (B7 i5 x3 l9 l8 x15 hx15)) ?_;refine gC h (fun h=>?_) (fun h=>?_)
     ·cases h;exact gO (J5 (Fd [] [30000,35000,37001] hq))
     ·obtain⟨x17,hx17,h⟩:=bind_some h;obtain⟨hc18,h⟩:=Ad h;obtain⟨hc19,h⟩:=Ad h;refine gR hq [0,1,10,11,28,29] [26,30000,35000,37001] [] [⟨[(30000,30000),(37001,37001),(35000,35000)],[],(.int .u64 x17.1),(Z1 63 x17.2.2 x17.2.1 x17.2.1.length),[]⟩] (ci (Hw i5 x3 x15.2.2 x15.2.1 x17 hx17) (ci hc19 (c1 (Eq.refl l7.length)))) ?_;refine U5 (Le.trans (Wt 26 (show ∀ k_,k_<l7.length→AVleL ((fun i_=>AV.eraseAll (fun n_=>Co n_ [26,30000,35000,37001]) ((I4 (fun i=>B6 (l7.getD i 0)) i6.toNat 0 [(.int .u64 x17.1)]) i_)) k_) ((fun i=>B6 ((l7.set i6.toNat x17.1).getD i 0)) k_) from(G4 (List.length_set ..).symm (fun k_ hk_=>(congrArg (AV.eraseAll (fun n_=>Co n_ [26,30000,35000,37001])) ((Ig (fun _ _=>rfl) (Jy hc19) rfl) k_ hk_)).trans rfl)))) (Wu (fun(k_:Nat) u=>(Lv u [(11,(.vsl 26 k_))] [(26,.arr 1 33 k_ (fun i=>B6 ((l7.set i6.toNat x17.1).getD i 0)))])) (show l7.length=(l7.set i6.toNat x17.1).length from(List.length_set ..).symm))) ?_;refine Br hq [0,1,10,11,28,29] [26,30000,35000,37001] ?_;refine Br hq [0,1,10,11,28,29] [26,30000,35000,37001] ?_;cases h;exact gN Ng
    ·cases h;exact gO (J5 (Fd [11] [26,30000,35000,37001] hq))
   ·clear hx20;rcases x20 with⟨l10,l11,l12⟩|⟨l13,l14⟩
    ·refine gA ?_;refine Br hq [8,9] [26,30000,35000,37001] ?_;refine T5 (⟨[(8,(.vsl 26 l10.length)),(9,U1)],(X9 l10 l12 l11),[]⟩:St) ?_;cases h;exact V8 (Nm (Ke [(30000,30000),(37001,37001),(35000,35000),(26,20000)] (Le.trans (L6 (nm:=26) (sz:=1) (n:=l10.length) (e:=33) (f:=(fun i=>B6 (l10.getD i 0))) (g:=(fun i=>B6 (l10.getD i 0))) rfl ⟨rfl,trivial⟩ (fun _ _=>rfl) (by rw[hΓ];rfl)) (U7 (st':=⟨[(8,(AV.list 1 B6 0 l10 (.own 26))),(9,U1)],(Xv 26 l10.length 63 l12.length l11 l12 l11.length),[]⟩) (by kernel_rfl)))))
    ·refine X1 (fun st' hl22=>?_);cases h;exact Yn (Le.trans hl22 Ng)
 ·clear h hx23;rintro⟨l1,l2⟩ y h;unfold Ex at h;refine gR hq [8,9] [30000,35000,37001] [(8,Vz)] [] (c1 (Cz 1 B6 (0:Int))) ?_;refine T5 (⟨[(8,Vz),V7],(Xm l2 l1),[]⟩:St) ?_;cases h;exact V8 (Nm (Ke [(30000,30000),(37001,37001),(35000,35000),(6008,20000)] (show Le Γ _ (X7 l2 l1) from Le.trans (Fd (st':=⟨[(8,Vz),V7],(Xm l2 l1),[]⟩) [8,9] [30000,35000,37001] hq) (Le.trans (It (t:=8) (nm:=6008) (sz':=1) (fun i=>B6 (([]:List Int).getD i 0)) 33 rfl rfl (.inl ⟨rfl,rfl⟩) (fun h_=>absurd h_ (by decide))) (Fd (st':=(X7 l2 l1)) [8,9] [6008,30000,35000,37001] hq)))))
 ·clear hx23;refine Tt (fun st' hk=>?_);obtain rfl:=OI h;exact gK hk
def We(x1:List Int):=(fun i=>eU8 (x1.getD i 0))
def Ce(a0:List Int)(a1:List Aa):Option (List Int×List Aa×List Int):=
 ((A3 a0).bind fun x1=>(some (x1,a1,a0)))
theorem Do(a0:List Int)(a1:List Aa)(r:(List Int×List Aa×List Int))(h:Ce a0 a1=some r):Spec Try.prog 19 [(.ptr 30000 0)] [(30000,.row 63 [(.vsl 35000 a0.length),(AV.list 3 Ah default a1 (.own 37001))]),(37001,.tok 3 49 a1.length),(35000,.arr 1 5 a0.length (fun i=>eU8 (a0.getD i 0)))] (AV.list 1 eU8 0 r.1 (.own 20000)) [(30000,.row 63 [(.vsl 35000 r.2.2.length),(AV.list 3 Ah default r.2.1 (.own 37001))]),(37001,.tok 3 49 r.2.1.length),(35000,.arr 1 5 r.2.2.length (fun i=>eU8 (r.2.2.getD i 0))),(20000,.tok 1 5 r.1.length)]:=by
 refine A7 mix Try.func19 (fun Γ hq=>?_);have hΓ:=hq.own;unfold Ce at h;refine gR hq [0] [30000,35000,37001] [(2,(AV.list 1 eU8 0 ([]:List Int) .exact))] [] (c1 (Cz 1 eU8 (0:Int))) ?_;refine Br hq [0,4] [30000,35000,37001] ?_;refine Xk false ?_;obtain⟨x1,hx1,h⟩:=bind_some h;refine gR hq [2] [9,30000,35000,37001] [] [⟨[],[(20000,9)],(.vsl 20000 x1.length),[(20000,.arr 1 5 x1.length (We x1))],[35000]⟩] (ci (Cp a0 x1 hx1) (ci (show(Hh [(20000,.arr 1 5 x1.length (We x1))]) from⟨(fun _ _=>rfl),trivial⟩) (c1 (Eq.refl a0.length)))) ?_;refine T5 (⟨[(2,(.vsl 9 x1.length))],[(9,.arr 1 5 x1.length (We x1)),(Z3 30000 63 35000 a0.length a1 37001),(Z4 35000 a0),(Io 37001 a1.length)],[]⟩:St) ?_;cases h;exact gK (e:=.ret) (Ke [(30000,30000),(37001,37001),(35000,35000),(9,20000)] (Le.trans (L6 (nm:=9) (sz:=1) (n:=x1.length) (e:=5) (f:=(We x1)) (g:=(We x1)) rfl ⟨rfl,trivial⟩ (fun _ _=>rfl) (by rw[hΓ];rfl)) (U7 (st':=⟨[(2,(AV.list 1 eU8 0 x1 (.own 9)))],[(9,.tok 1 5 x1.length),(Z3 30000 63 35000 a0.length a1 37001),(Z4 35000 a0),(Io 37001 a1.length)],[]⟩) (by kernel_rfl))))
def V0:AV:=Xh
def Ya:=(⟨[(2,(AV.list 3 Ah default ([]:List Aa) (.own 6002)))],[(6002,.tok 3 49 (([]:List Aa).length))],[]⟩:St)
def A5(aB:List Aa):Option (List Aa):=
 (Db (([]:List Aa).length+aB.length≤room) (some (([]:List Aa)++aB)))
theorem C8(aB:List Aa)(r:List Aa)(h:A5 aB=some r):Spec Try.prog 29 [(AV.list 3 Ah default aB .none)] [] (AV.list 3 Ah default r (.own 20000)) [(20000,.tok 3 49 r.length)]:=by
 refine A7 mix Try.func29 (fun Γ hq=>?_);unfold A5 at h;refine gR hq [0] [] [(2,V0)] [] (c1 (Cz 3 Ah (default:Aa))) ?_;refine Br hq [0,4] [] ?_;refine Wp true aB.length (fun hb=>?_) (fun hb=>?_)
 ·replace h:=S1 (some ([]:List Aa)) (fun(l2:List Aa)=>(Db (([]:List Aa).length+l2.length≤room) (some (([]:List Aa)++l2)))) h (hb rfl) rfl (fun h0=>by first|exact h0|simpa [Db,room] using h0);clear hb;refine gR hq [2] [] [(2,V0)] [] (c1 (Cz 3 Ah (default:Aa))) ?_;refine T5 (⟨[(2,V0)],[],[]⟩:St) ?_;cases h;exact gK (e:=.ret) (Ke [(6002,20000)] (show Le Γ _ Ya from Le.trans (Fd (st':=⟨[(2,V0)],[],[]⟩) [2] [] hq) (Le.trans (It (t:=2) (nm:=6002) (sz':=3) (fun i=>Ah (([]:List Aa).getD i default)) 49 rfl rfl (.inl ⟨rfl,rfl⟩) (fun h_=>absurd h_ (by decide))) (Fd (st':=Ya) [2] [6002] hq))))
 ·clear hb;obtain⟨hc1,h⟩:=Ad h;refine gR hq [2] [7] [(5,V0),(7,(AV.list 3 Ah default (([]:List Aa)++aB) (.own 7)))] [] (ci (show(AVle (.slice 3 0 (fun i=>([]:List (List AV)).getD i []) .exact) V0) from J8 rfl (fun i hi=>absurd hi (Nat.not_lt_zero i))) (ci hc1 (ci (show(49=In→([]:List Aa).length=0∨0<aB.length) from(fun h_=>absurd h_ (by decide))) (ci (Gz 3 7 Ah (default:Aa) ([]:List Aa) aB) (c1 (G5 ([]:List Aa) aB)))))) ?_;cases h;exact F2 [(7,20000)]
def Cf(a0:List Int)(a1:List Aa):Option (List Aa×List Aa×List Int):=
 ((A5 a1).bind fun x1=>(some (x1,a1,a0)))
theorem C2(a0:List Int)(a1:List Aa)(r:(List Aa×List Aa×List Int))(h:Cf a0 a1=some r):Spec Try.prog 21 [(.ptr 30000 0)] [(30000,.row 63 [(.vsl 35000 a0.length),(AV.list 3 Ah default a1 (.own 37001))]),(37001,.tok 3 49 a1.length),(35000,.arr 1 5 a0.length (fun i=>eU8 (a0.getD i 0)))] (AV.list 3 Ah default r.1 (.own 20000)) [(30000,.row 63 [(.vsl 35000 r.2.2.length),(AV.list 3 Ah default r.2.1 (.own 37001))]),(37001,.tok 3 49 r.2.1.length),(35000,.arr 1 5 r.2.2.length (fun i=>eU8 (r.2.2.getD i 0))),(20000,.tok 3 49 r.1.length)]:=by
 refine A7 mix Try.func21 (fun Γ hq=>?_);unfold Cf at h;refine gR hq [0] [30000,35000,37001] [(2,Xh)] [] (c1 (Cz 3 Ah (default:Aa))) ?_;refine Br hq [0,4] [30000,35000,37001] ?_;refine Xk false ?_;obtain⟨x1,hx1,h⟩:=bind_some h;refine gR hq [2] [9,30000,35000,37001] [] [⟨[],[(20000,9)],(Wi x1 20000),[(Io 20000 x1.length)],[]⟩] (c1 (C8 a1 x1 hx1)) ?_;cases h;exact F2 [(30000,30000),(37001,37001),(35000,35000),(9,20000)]
def V3(x5:(List Int×Int×List Aa×List Int)):=(x5.2.1==0)
def Ux(x3:(Int×List Aa×List Int)):=((x3.1==0)==true)
def Yr(x5:(List Int×Int×List Aa×List Int)):=(((x5.1.length:Int):Int)==1)
def Ry(x3:(Int×List Aa×List Int))(x9:(List Int×List Aa×List Int)):=(bif (x3.1==0) then(((x9.1.length:Int):Int)==4) else false)
def V5(x9:(List Int×List Aa×List Int)):=(((x9.1.getD (2:Int).toNat (0:Int)):Int)==2)
def Pq(x3:(Int×List Aa×List Int))(x9:(List Int×List Aa×List Int)):=(bif (bif (Ry x3 x9) then(V5 x9) else false) then(((x9.1.getD (3:Int).toNat (0:Int)):Int)==1) else false)
def Ni(x3:(Int×List Aa×List Int))(x9:(List Int×List Aa×List Int))(x5:(List Int×Int×List Aa×List Int)):=(bif (bif (Pq x3 x9) then(V3 x5) else false) then(Yr x5) else false)
def Ys(x5:(List Int×Int×List Aa×List Int)):=(((x5.1.getD (0:Int).toNat (0:Int)):Int)==16910601)
def Rt(x3:(Int×List Aa×List Int))(x9:(List Int×List Aa×List Int))(x5:(List Int×Int×List Aa×List Int)):=(bif (Ni x3 x9 x5) then(Ys x5) else false)
def Uw(x3:(Int×List Aa×List Int))(x9:(List Int×List Aa×List Int))(x5:(List Int×Int×List Aa×List Int)):=((bif (Pq x3 x9) then(V3 x5) else false)==true)
def V4(x15:(List Aa×List Aa×List Int)):AV:=(Wi x15.1 20000)
def Tp:=([(9:Int),(9:Int),(9:Int),(9:Int)]:List Int)
def Rs(x3:(Int×List Aa×List Int))(x9:(List Int×List Aa×List Int)):=((Ry x3 x9)==true)
def Rr(x3:(Int×List Aa×List Int))(x9:(List Int×List Aa×List Int)):=((bif (Ry x3 x9) then(V5 x9) else false)==true)
def Xn(x9:(List Int×List Aa×List Int)):List (Nat×Own):=(Z1 63 x9.2.2 x9.2.1 x9.2.1.length)
def Wf(x18:(Bool×List Aa×List Int)):List (Nat×Own):=(Z1 63 x18.2.2 x18.2.1 x18.2.1.length)
def Yb(x15:(List Aa×List Aa×List Int)):List (Nat×Own):=(Z1 63 x15.2.2 x15.2.1 x15.2.1.length)
def Yc(x21:(Bool×List Aa×List Int)):List (Nat×Own):=(Z1 63 x21.2.2 x21.2.1 x21.2.1.length)
def V2(x1:((Bool×J3)×Int)):List (Nat×Own):=(Z2 20000 63 21000 x1.1.2.bytes x1.1.2.trace 21001 x1.1.2.trace.length)
def V1(x15:(List Aa×List Aa×List Int)):List (Nat×Own):=[(Z3 30000 63 35000 x15.2.2.length x15.2.1 37001),(Io 37001 x15.2.1.length),(Z4 35000 x15.2.2),(Io 20000 x15.1.length)]
def m_locksteplaw12_awake :Option Bool:=
 ((Df ([(9:Int),(9:Int),(9:Int),(9:Int)]:List Int)).bind fun x1=>(bif x1.1.1 then(bif (x1.2 !=0) then(some false) else((Cg (2:Int) (16:Int) ([(258:Int)]:List Int) x1.1.2.bytes x1.1.2.trace).bind fun x3=>(Db (x1.1.2.bytes.length=x3.2.2.length) ((B9 (0:Int) (32:Int) (1:Int) x3.2.2 x3.2.1).bind fun x5=>(Db (x3.2.2.length=x5.2.2.2.length) ((B9 (1:Int) (32:Int) (1:Int) x5.2.2.2 x5.2.2.1).bind fun x7=>(Db (x5.2.2.2.length=x7.2.2.2.length) ((Ce x7.2.2.2 x7.2.2.1).bind fun x9=>(Db (x7.2.2.2.length=x9.2.2.length) (Db (((bif (x3.1==0) then(((x9.1.length:Int):Int)==4) else false)==true)=true→(E2 (2:Int) x9.1.length)) (Db (((bif (bif (x3.1==0) then(((x9.1.length:Int):Int)==4) else false) then(((x9.1.getD (2:Int).toNat (0:Int)):Int)==2) else false)==true)=true→(E2 (3:Int) x9.1.length)) (Db (((bif (bif (bif (bif (bif (x3.1==0) then(((x9.1.length:Int):Int)==4) else false) then(((x9.1.getD (2:Int).toNat (0:Int)):Int)==2) else false) then(((x9.1.getD (3:Int).toNat (0:Int)):Int)==1) else false) then(x5.2.1==0) else false) then(((x5.1.length:Int):Int)==1) else false)==true)=true→(E2 (0:Int) x5.1.length)) (bif (bif (bif (bif (bif (bif (bif (bif (x3.1==0) then(((x9.1.length:Int):Int)==4) else false) then(((x9.1.getD (2:Int).toNat (0:Int)):Int)==2) else false) then(((x9.1.getD (3:Int).toNat (0:Int)):Int)==1) else false) then(x5.2.1==0) else false) then(((x5.1.length:Int):Int)==1) else false) then(((x5.1.getD (0:Int).toNat (0:Int)):Int)==16910601) else false) then(x7.2.1==8) else false) then((Cf x9.2.2 x9.2.1).bind fun x15=>(Db (x9.2.2.length=x15.2.2.length) (bif (((x15.1.length:Int):Int)==6) then((Bj (3:Int) (1:Int) x15.2.2 x15.2.1).bind fun x18=>(Db (x15.2.2.length=x18.2.2.length) (bif x18.1 then((Bj (3:Int) (2:Int) x18.2.2 x18.2.1).bind fun x21=>(Db (x18.2.2.length=x21.2.2.length) (some (!x21.1)))) else(some false)))) else(some false)))) else(some false)))))))))))))) else(some false)))
theorem Fq  (r:Bool) (h:m_locksteplaw12_awake=some r):Spec Try.prog 9 [] [] (.bool r) []:=by
 refine A7 mix Try.func9 (fun Γ hq=>?_);unfold m_locksteplaw12_awake at h;refine Br hq [] [] ?_;obtain⟨x1,hx1,h⟩:=bind_some h;refine gB h (fun hs2 h=>?_) (fun hs2 h=>?_)
 ·refine gR hq [1,2] [11,60011000,60011001] [(10,(AV.list 1 eU8 0 Tp .exact))] [⟨[],[(20000,11),(21000,60011000),(21001,60011001)],(.tuple [(bif true then((.ptr 20000 0):AV) else .nilp),(E8 x1.2)]),(bif true then(V2 x1) else[]),[]⟩] (ci (Es 1 eU8 (0:Int) Tp) (c1 (show(Spec Try.prog 10 (Uz Tp) [] (.tuple [(bif true then((.ptr 20000 0):AV) else .nilp),(E8 x1.2)]) (bif true then(V2 x1) else[])) from(Xj (fun b_:Bool=>Spec Try.prog 10 (Uz Tp) [] (.tuple [(bif b_ then((.ptr 20000 0):AV) else .nilp),(E8 x1.2)]) (bif b_ then(V2 x1) else[])) hs2 (Ft Tp x1 hx1))))) ?_;refine gR hq [1,19] [11,60011000,60011001] [] [] (ci (show((false==false)=true→(false==false)=true) from(fun _=>rfl)) (c1 (show(false=false→(false==false)=true) from(fun _=>rfl)))) ?_;refine gC h (fun h=>?_) (fun h=>?_)
  ·refine Br hq [0] [] ?_;obtain rfl:=OI h;exact F2 []
  ·obtain⟨x3,hx3,h⟩:=bind_some h;obtain⟨hc4,h⟩:=Ad h;refine gR hq [1,3] [11,60011000,60011001] [(21,(AV.list 1 B6 0 ([(258:Int)]:List Int) .exact))] [⟨[(11,30000),(60011001,37001),(60011000,35000)],[],(E8 x3.1),(Z1 63 x3.2.2 x3.2.1 x3.2.1.length),[]⟩] (ci (Es 1 B6 (0:Int) ([(258:Int)]:List Int)) (c1 (Fe (2:Int) (16:Int) ([(258:Int)]:List Int) x1.1.2.bytes x1.1.2.trace x3 hx3))) ?_;obtain⟨x5,hx5,h⟩:=bind_some h;obtain⟨hc6,h⟩:=Ad h;refine gR hq [1,3,4,5] [11,25,60011000,60011001] [] [(Z7 11 60011001 60011000 25 x5.1 x5.2.1 63 x5.2.2.2.length x5.2.2.1 x5.2.2.1.length x5.2.2.2 x5.1.length)] (c1 (D2 (0:Int) (32:Int) (1:Int) x3.2.2 x3.2.1 x5 hx5)) ?_;obtain⟨x7,hx7,h⟩:=bind_some h;obtain⟨hc8,h⟩:=Ad h;refine gR hq [1,3,4,5,7] [11,25,60011000,60011001] [] [(Z7 11 60011001 60011000 30 x7.1 x7.2.1 63 x7.2.2.2.length x7.2.2.1 x7.2.2.1.length x7.2.2.2 x7.1.length)] (c1 (D2 (1:Int) (32:Int) (1:Int) x5.2.2.2 x5.2.2.1 x7 hx7)) ?_;obtain⟨x9,hx9,h⟩:=bind_some h;obtain⟨hc10,h⟩:=Ad h;refine gR hq [1,3,4,5,7,8] [11,25,34,60011000,60011001] [] [⟨[(11,30000),(60011001,37001),(60011000,35000)],[(20000,34)],(AV.list 1 eU8 0 x9.1 (.own 20000)),[(Z3 30000 63 35000 x9.2.2.length x9.2.1 37001),(Io 37001 x9.2.1.length),(Z4 35000 x9.2.2),(20000,.tok 1 5 x9.1.length)],[]⟩] (c1 (Do x7.2.2.2 x7.2.2.1 x9 hx9)) ?_;obtain⟨hc11,h⟩:=Ad h;obtain⟨hc12,h⟩:=Ad h;obtain⟨hc13,h⟩:=Ad h;refine gB h (fun hs14 h=>?_) (fun hs14 h=>?_)
   ·obtain⟨x15,hx15,h⟩:=bind_some h;obtain⟨hc16,h⟩:=Ad h;refine gB h (fun hs17 h=>?_) (fun hs17 h=>?_)
    ·obtain⟨x18,hx18,h⟩:=bind_some h;obtain⟨hc19,h⟩:=Ad h;refine gB h (fun hs20 h=>?_) (fun hs20 h=>?_)
     ·obtain⟨x21,hx21,h⟩:=bind_some h;obtain⟨hc22,h⟩:=Ad h;refine gR hq [0] [] [(73,(.bool true)),(79,(.bool true)),(83,(.bool true))] [(Xs (V4 x15) (V1 x15)),(Xt x18.1 (Wf x18)),(Xt x21.1 (Yc x21))] (ci (gI (Ux x3)) (ci (gI (Ux x3)) (ci (Hu (x3.1==0)) (ci (gI (Rs x3 x9)) (ci hc11 (ci (gI (Rs x3 x9)) (ci (gI (Rs x3 x9)) (ci (Hu (Ry x3 x9)) (ci (gI (Rr x3 x9)) (ci hc12 (ci (gI (Rr x3 x9)) (ci (gI (Rr x3 x9)) (ci (Hu (bif (Ry x3 x9) then(V5 x9) else false)) (ci (gI ((Pq x3 x9)==true)) (ci (Hu (Pq x3 x9)) (ci (gI (Uw x3 x9 x5)) (ci (gI (Uw x3 x9 x5)) (ci (Hu (bif (Pq x3 x9) then(V3 x5) else false)) (ci (gI ((Ni x3 x9 x5)==true)) (ci hc13 (ci (gI ((Ni x3 x9 x5)==true)) (ci (gI ((Ni x3 x9 x5)==true)) (ci (Hu (Ni x3 x9 x5)) (ci (gI ((Rt x3 x9 x5)==true)) (ci (Hu (Rt x3 x9 x5)) (ci (show(AVle (.bool (bif (Rt x3 x9 x5) then(x7.2.1==8) else false)) (.bool true)) from(Dm hs14)) (ci (show((true==true)=true→(true==true)=true) from(fun _=>rfl)) (ci (show((true==true)=true→(Spec Try.prog 21 [(.ptr 30000 0)] (Xn x9) (V4 x15) (V1 x15))) from(fun _=>(C2 x9.2.2 x9.2.1 x15 hx15))) (ci (show((true==true)=true→(true==true)=true) from(fun _=>rfl)) (ci (show((true==true)=true→(true==true)=true) from(fun _=>rfl)) (ci (show(true=true→(true==true)=true) from(fun _=>rfl)) (ci (show(AVle (.bool (((x15.1.length:Int):Int)==6)) (.bool true)) from(Dm hs17)) (ci (show((true==true)=true→(true==true)=true) from(fun _=>rfl)) (ci (show((true==true)=true→(Spec Try.prog 16 [(.ptr 30000 0),U0,Ty] (Yb x15) (.bool x18.1) (Wf x18))) from(fun _=>(B7 (3:Int) (1:Int) x15.2.2 x15.2.1 x18 hx18))) (ci (show(true=true→(true==true)=true) from(fun _=>rfl)) (ci (show(AVle (.bool x18.1) (.bool true)) from(Dm hs20)) (ci (show((true==true)=true→(true==true)=true) from(fun _=>rfl)) (ci (show((true==true)=true→(Spec Try.prog 16 [(.ptr 30000 0),U0,(.int .i64 (2:Int))] (Wf x18) (.bool x21.1) (Yc x21))) from(fun _=>(B7 (3:Int) (2:Int) x18.2.2 x18.2.1 x21 hx21))) (ci (show((true==true)=true→(true==true)=true) from(fun _=>rfl)) (c1 (show(true=true→(true==true)=true) from(fun _=>rfl)))))))))))))))))))))))))))))))))))))))))) ?_;cases h;exact F2 []
     ·refine gR hq [0] [] [(73,(.bool true)),(79,(.bool true)),(83,(.bool false))] [(Xs (V4 x15) (V1 x15)),(Xt x18.1 (Wf x18)),Vf] (ci (gI (Ux x3)) (ci (gI (Ux x3)) (ci (Hu (x3.1==0)) (ci (gI (Rs x3 x9)) (ci hc11 (ci (gI (Rs x3 x9)) (ci (gI (Rs x3 x9)) (ci (Hu (Ry x3 x9)) (ci (gI (Rr x3 x9)) (ci hc12 (ci (gI (Rr x3 x9)) (ci (gI (Rr x3 x9)) (ci (Hu (bif (Ry x3 x9) then(V5 x9) else false)) (ci (gI ((Pq x3 x9)==true)) (ci (Hu (Pq x3 x9)) (ci (gI (Uw x3 x9 x5)) (ci (gI (Uw x3 x9 x5)) (ci (Hu (bif (Pq x3 x9) then(V3 x5) else false)) (ci (gI ((Ni x3 x9 x5)==true)) (ci hc13 (ci (gI ((Ni x3 x9 x5)==true)) (ci (gI ((Ni x3 x9 x5)==true)) (ci (Hu (Ni x3 x9 x5)) (ci (gI ((Rt x3 x9 x5)==true)) (ci (Hu (Rt x3 x9 x5)) (ci (show(AVle (.bool (bif (Rt x3 x9 x5) then(x7.2.1==8) else false)) (.bool true)) from(Dm hs14)) (ci (show((true==true)=true→(true==true)=true) from(fun _=>rfl)) (ci (show((true==true)=true→(Spec Try.prog 21 [(.ptr 30000 0)] (Xn x9) (V4 x15) (V1 x15))) from(fun _=>(C2 x9.2.2 x9.2.1 x15 hx15))) (ci (show((true==true)=true→(true==true)=true) from(fun _=>rfl)) (ci (show((true==true)=true→(true==true)=true) from(fun _=>rfl)) (ci (show(true=true→(true==true)=true) from(fun _=>rfl)) (ci (show(AVle (.bool (((x15.1.length:Int):Int)==6)) (.bool true)) from(Dm hs17)) (ci (show((true==true)=true→(true==true)=true) from(fun _=>rfl)) (ci (show((true==true)=true→(Spec Try.prog 16 [(.ptr 30000 0),U0,Ty] (Yb x15) (.bool x18.1) (Wf x18))) from(fun _=>(B7 (3:Int) (1:Int) x15.2.2 x15.2.1 x18 hx18))) (ci (show(true=true→(true==true)=true) from(fun _=>rfl)) (ci (show(AVle (.bool x18.1) (.bool false)) from(Dm hs20)) (ci (show((false==true)=true→(false==true)=true) from Fa) (ci (show((false==true)=true→(Spec Try.prog 16 [.any,U0,(.int .i64 (2:Int))] [] (.bool false) [])) from Fa) (ci (show((false==true)=true→(false==true)=true) from Fa) (c1 (show(false=true→(false==true)=true) from Fa))))))))))))))))))))))))))))))))))))))))) ?_;obtain rfl:=OI h;exact F2 []
    ·refine gR hq [0] [] [(73,(.bool true)),(79,(.bool false))] [(Xs (V4 x15) (V1 x15)),Vf,Vf] (ci (gI (Ux x3)) (ci (gI (Ux x3)) (ci (Hu (x3.1==0)) (ci (gI (Rs x3 x9)) (ci hc11 (ci (gI (Rs x3 x9)) (ci (gI (Rs x3 x9)) (ci (Hu (Ry x3 x9)) (ci (gI (Rr x3 x9)) (ci hc12 (ci (gI (Rr x3 x9)) (ci (gI (Rr x3 x9)) (ci (Hu (bif (Ry x3 x9) then(V5 x9) else false)) (ci (gI ((Pq x3 x9)==true)) (ci (Hu (Pq x3 x9)) (ci (gI (Uw x3 x9 x5)) (ci (gI (Uw x3 x9 x5)) (ci (Hu (bif (Pq x3 x9) then(V3 x5) else false)) (ci (gI ((Ni x3 x9 x5)==true)) (ci hc13 (ci (gI ((Ni x3 x9 x5)==true)) (ci (gI ((Ni x3 x9 x5)==true)) (ci (Hu (Ni x3 x9 x5)) (ci (gI ((Rt x3 x9 x5)==true)) (ci (Hu (Rt x3 x9 x5)) (ci (show(AVle (.bool (bif (Rt x3 x9 x5) then(x7.2.1==8) else false)) (.bool true)) from(Dm hs14)) (ci (show((true==true)=true→(true==true)=true) from(fun _=>rfl)) (ci (show((true==true)=true→(Spec Try.prog 21 [(.ptr 30000 0)] (Xn x9) (V4 x15) (V1 x15))) from(fun _=>(C2 x9.2.2 x9.2.1 x15 hx15))) (ci (show((true==true)=true→(true==true)=true) from(fun _=>rfl)) (ci (show((true==true)=true→(true==true)=true) from(fun _=>rfl)) (ci (show(true=true→(true==true)=true) from(fun _=>rfl)) (ci (show(AVle (.bool (((x15.1.length:Int):Int)==6)) (.bool false)) from(Dm hs17)) (ci (show((false==true)=true→(false==true)=true) from Fa) (ci (show((false==true)=true→(Spec Try.prog 16 [.any,U0,Ty] [] (.bool false) [])) from Fa) (ci (show(false=true→(false==true)=true) from Fa) (ci (show((false==true)=true→(false==true)=true) from Fa) (ci (show((false==true)=true→(Spec Try.prog 16 [.any,U0,(.int .i64 (2:Int))] [] (.bool false) [])) from Fa) (ci (show((false==true)=true→(false==true)=true) from Fa) (c1 (show(false=true→(false==true)=true) from Fa)))))))))))))))))))))))))))))))))))))))) ?_;obtain rfl:=OI h;exact F2 []
   ·refine gR hq [0] [] [(73,(.bool false))] [⟨[],[],Xw,[],[]⟩,Vf,Vf] (ci (gI (Ux x3)) (ci (gI (Ux x3)) (ci (Hu (x3.1==0)) (ci (gI (Rs x3 x9)) (ci hc11 (ci (gI (Rs x3 x9)) (ci (gI (Rs x3 x9)) (ci (Hu (Ry x3 x9)) (ci (gI (Rr x3 x9)) (ci hc12 (ci (gI (Rr x3 x9)) (ci (gI (Rr x3 x9)) (ci (Hu (bif (Ry x3 x9) then(V5 x9) else false)) (ci (gI ((Pq x3 x9)==true)) (ci (Hu (Pq x3 x9)) (ci (gI (Uw x3 x9 x5)) (ci (gI (Uw x3 x9 x5)) (ci (Hu (bif (Pq x3 x9) then(V3 x5) else false)) (ci (gI ((Ni x3 x9 x5)==true)) (ci hc13 (ci (gI ((Ni x3 x9 x5)==true)) (ci (gI ((Ni x3 x9 x5)==true)) (ci (Hu (Ni x3 x9 x5)) (ci (gI ((Rt x3 x9 x5)==true)) (ci (Hu (Rt x3 x9 x5)) (ci (show(AVle (.bool (bif (Rt x3 x9 x5) then(x7.2.1==8) else false)) (.bool false)) from(Dm hs14)) (ci (show((false==true)=true→(false==true)=true) from Fa) (ci (show((false==true)=true→(Spec Try.prog 21 [.any] [] Xw [])) from Fa) (ci (show((false==true)=true→(false==true)=true) from Fa) (ci (show((false==true)=true→(false==true)=true) from Fa) (ci (show(false=true→(false==true)=true) from Fa) (ci (show((false==true)=true→(false==true)=true) from Fa) (ci (show((false==true)=true→(Spec Try.prog 16 [.any,U0,Ty] [] (.bool false) [])) from Fa) (ci (show(false=true→(false==true)=true) from Fa) (ci (show((false==true)=true→(false==true)=true) from Fa) (ci (show((false==true)=true→(Spec Try.prog 16 [.any,U0,(.int .i64 (2:Int))] [] (.bool false) [])) from Fa) (ci (show((false==true)=true→(false==true)=true) from Fa) (c1 (show(false=true→(false==true)=true) from Fa))))))))))))))))))))))))))))))))))))))) ?_;obtain rfl:=OI h;exact F2 []
 ·refine gR hq [1,2] [] [(10,(AV.list 1 eU8 0 Tp .exact))] [⟨[],[],(.tuple [(bif false then((.ptr 20000 0):AV) else .nilp),(E8 x1.2)]),(bif false then(V2 x1) else[]),[]⟩] (ci (Es 1 eU8 (0:Int) Tp) (c1 (show(Spec Try.prog 10 (Uz Tp) [] (.tuple [(bif false then((.ptr 20000 0):AV) else .nilp),(E8 x1.2)]) (bif false then(V2 x1) else[])) from(Xj (fun b_:Bool=>Spec Try.prog 10 (Uz Tp) [] (.tuple [(bif b_ then((.ptr 20000 0):AV) else .nilp),(E8 x1.2)]) (bif b_ then(V2 x1) else[])) hs2 (Ft Tp x1 hx1))))) ?_;refine gR hq [1,19] [] [] [] (ci (show((true==false)=true→(true==false)=true) from Fa) (c1 (show(true=false→(true==false)=true) from Yo))) ?_;refine Xk true ?_;refine Br hq [0] [] ?_;obtain rfl:=OI h;exact F2 []
def Xo(a7:Int):=(bif (bif (a7==8) then true else(a7==16)) then true else(a7==32))
def Xa(a7:Int):=(bif (Xo a7) then true else(a7==64))
def Bt(a7:Int)(a6:Int):Option Bool:=
 (some (bif (bif (bif (bif (bif (a7==8) then true else(a7==16)) then true else(a7==32)) then true else(a7==64)) then(decide (((0:Int):Int)≤a6)) else false) then(decide (a6≤16)) else false))
theorem Du(a7:Int)(a6:Int)(r:Bool)(h:Bt a7 a6=some r):Spec Try.prog 22 [(.int .i64 a7),(.int .i64 a6)] [] (.bool r) []:=by
 refine A7 mix Try.func22 (fun Γ hq=>?_);unfold Bt at h;refine Br hq [0,1] [] ?_;refine gR hq [4] [] [] [] (ci (gI ((a7==8)==false)) (ci (Sr (a7==8)) (ci (gI ((bif (a7==8) then true else(a7==16))==false)) (ci (Sr (bif (a7==8) then true else(a7==16))) (ci (gI ((Xo a7)==false)) (ci (Sr (Xo a7)) (ci (gI ((Xa a7)==true)) (ci (Hu (Xa a7)) (ci (gI ((bif (Xa a7) then(decide (((0:Int):Int)≤a6)) else false)==true)) (c1 (Hu (bif (Xa a7) then(decide (((0:Int):Int)≤a6)) else false)))))))))))) ?_;cases h;exact F2 []
def Aw(a5:Int)(a6:Int)(a0:List Int)(a1:List Aa):Int→Option (LR Int (Unit ⊕ (Bool×List Aa×List Int))):=
 fun(i1:Int)=>(bif (decide (i1<a6)) then(bif (bif (decide (((Ao (a5+(Ao i1))):Int)<a5)) then true else(decide (((Ao (a0.length:Int)):Int)≤(Ao (a5+(Ao i1)))))) then(some (.done (.inr (false,a1,a0)))) else(some (.next (Bg (i1+1))))) else(some (.done (.inl ()))))
def El(Γ:Dd)(a5:Int)(a6:Int)(a0:List Int)(a1:List Aa)(r:(Bool×List Aa×List Int)):Exit→St→Prop:=fK Try.prog Γ Try.f17.results.toList (Z1 32 a0 a1 a1.length) (.bool r.1) (Z1 32 r.2.2 r.2.1 r.2.1.length)
def V6(a6:Int):=((decide (a6<1))==false)
def Tq(a5:Int)(i1:Int):=((decide (((Ao (a5+(Ao i1))):Int)<a5))==false)
def A4(a5:Int)(a6:Int)(a0:List Int)(a1:List Aa):Option (Bool×List Aa×List Int):=
 (bif (bif (decide (a6<1)) then true else(decide (((a0.length:Int):Int)<a6))) then(some (false,a1,a0)) else((Bh (Aw a5 a6 a0 a1) (0:Int)).bind (fun x2=>(match x2 with|(.inl _)=>(some (true,a1,a0))|(.inr r4)=>(some r4)))))
theorem Cy(a5:Int)(a6:Int)(a0:List Int)(a1:List Aa)(r:(Bool×List Aa×List Int))(h:A4 a5 a6 a0 a1=some r):Spec Try.prog 17 [(.ptr 30000 0),(.int .u64 a5),(.int .i64 a6)] [(30000,.row 32 [(.vsl 35000 a0.length),(AV.list 3 Ah default a1 (.own 37001))]),(37001,.tok 3 49 a1.length),(35000,.arr 1 5 a0.length (fun i=>eU8 (a0.getD i 0)))] (.bool r.1) [(30000,.row 32 [(.vsl 35000 r.2.2.length),(AV.list 3 Ah default r.2.1 (.own 37001))]),(37001,.tok 3 49 r.2.1.length),(35000,.arr 1 5 r.2.2.length (fun i=>eU8 (r.2.2.getD i 0)))]:=by
 refine A7 mix Try.func17 (fun Γ hq=>?_);unfold A4 at h;refine Br hq [0,1,2] [30000,35000,37001] ?_;refine gR hq [0,1,2,18] [30000,35000,37001] [] [] (ci (gI (V6 a6)) (ci (gI (V6 a6)) (ci (gI (V6 a6)) (ci (gI (V6 a6)) (ci (gI (V6 a6)) (ci (gI (V6 a6)) (c1 (Sr (decide (a6<1)))))))))) ?_;refine gC h (fun h=>?_) (fun h=>?_)
 ·refine Br hq [6] [30000,35000,37001] ?_;cases h;exact F2 [(30000,30000),(37001,37001),(35000,35000)]
 ·refine Br hq [0,1,2,7] [30000,35000,37001] ?_;obtain⟨x2,hx2,h⟩:=bind_some h;refine gL hq hx2 [0,1,2,7] [30000,35000,37001] (fun u i1=>(Lv u [(7,(E8 i1))] [])) (fun u x_=>match x_ with|(.inl _)=>aG Γ (.exit 0) (Wb [] [30000,35000,37001] u [] [])|(.inr r_)=>aR (El Γ a5 a6 a0 a1 r_)) ?_ ?_
  ·intro i1 y h;unfold Aw at h;refine Br hq [0,1,2,7,21] [30000,35000,37001] ?_;refine gC h (fun h=>?_) (fun h=>?_)
   ·refine gR hq [0,1,2,7,42] [30000,35000,37001] [] [] (ci (gI (Tq a5 i1)) (ci (gI (Tq a5 i1)) (ci (gI (Tq a5 i1)) (ci (gI (Tq a5 i1)) (ci (gI (Tq a5 i1)) (ci (gI (Tq a5 i1)) (ci (gI (Tq a5 i1)) (ci (gI (Tq a5 i1)) (ci (gI (Tq a5 i1)) (ci (gI (Tq a5 i1)) (c1 (Sr (decide (((Ao (a5+(Ao i1))):Int)<a5)))))))))))))) ?_;refine gC h (fun h=>?_) (fun h=>?_)
    ·refine Br hq [6] [30000,35000,37001] ?_;cases h;exact gO (Nm (Ke [(30000,30000),(37001,37001),(35000,35000)] (Le.refl _ _)))
    ·refine Br hq [0,1,2,7] [30000,35000,37001] ?_;cases h;exact gN Ng
   ·cases h;exact gO (J5 (Fd [] [30000,35000,37001] hq))
  ·clear hx2;rcases x2 with _|r4
   ·refine gA ?_;refine Br hq [6] [30000,35000,37001] ?_;cases h;exact F2 [(30000,30000),(37001,37001),(35000,35000)]
   ·refine Tt (fun st' hk=>?_);obtain rfl:=OI h;exact gK hk
def Yd(x2:(Bool×List Aa×List Int)):List (Nat×Own):=(Z1 32 x2.2.2 x2.2.1 x2.2.1.length)
def A6(a5:Int)(a9:Int)(aD:Int)(a0:List Int)(a1:List Aa):Option (Bool×List Aa×List Int):=
 (bif (decide (a5≤(Ao (a5+(Ao (Bg (aD*a9))))))) then((A4 (Ao (a5+(Ao (Bg (aD*a9))))) a9 a0 a1).bind fun x2=>(Db (a0.length=x2.2.2.length) (some (x2.1,x2.2.1,x2.2.2)))) else(some (false,a1,a0)))
theorem C4(a5:Int)(a9:Int)(aD:Int)(a0:List Int)(a1:List Aa)(r:(Bool×List Aa×List Int))(h:A6 a5 a9 aD a0 a1=some r):Spec Try.prog 27 [(.ptr 30000 0),(.int .u64 a5),(.int .i64 a9),(.int .i64 aD)] [(30000,.row 32 [(.vsl 35000 a0.length),(AV.list 3 Ah default a1 (.own 37001))]),(37001,.tok 3 49 a1.length),(35000,.arr 1 5 a0.length (fun i=>eU8 (a0.getD i 0)))] (.bool r.1) [(30000,.row 32 [(.vsl 35000 r.2.2.length),(AV.list 3 Ah default r.2.1 (.own 37001))]),(37001,.tok 3 49 r.2.1.length),(35000,.arr 1 5 r.2.2.length (fun i=>eU8 (r.2.2.getD i 0)))]:=by
 refine A7 mix Try.func27 (fun Γ hq=>?_);unfold A6 at h;refine Br hq [0,1,2,3] [30000,35000,37001] ?_;refine Br hq [0,1,2,9] [30000,35000,37001] ?_;refine gB h (fun hs1 h=>?_) (fun hs1 h=>?_)
 ·obtain⟨x2,hx2,h⟩:=bind_some h;obtain⟨hc3,h⟩:=Ad h;refine gR hq [8] [30000,35000,37001] [(19,(.bool true))] [⟨[(30000,30000),(37001,37001),(35000,35000)],[],(.bool x2.1),(Yd x2),[]⟩] (ci (show(AVle (.bool (decide (a5≤(Ao (a5+(Ao (Bg (aD*a9)))))))) (.bool true)) from(Dm hs1)) (ci (show((true==true)=true→(true==true)=true) from(fun _=>rfl)) (ci (show((true==true)=true→(true==true)=true) from(fun _=>rfl)) (ci (show((true==true)=true→(true==true)=true) from(fun _=>rfl)) (ci (show((true==true)=true→(Spec Try.prog 17 [(.ptr 30000 0),(.int .u64 (Ao (a5+(Ao (Bg (aD*a9)))))),(E8 a9)] (Z1 32 a0 a1 a1.length) (.bool x2.1) (Yd x2))) from(fun _=>(Cy (Ao (a5+(Ao (Bg (aD*a9))))) a9 a0 a1 x2 hx2))) (c1 (show(true=true→(true==true)=true) from(fun _=>rfl)))))))) ?_;cases h;exact F2 [(30000,30000),(37001,37001),(35000,35000)]
 ·refine gR hq [8] [30000,35000,37001] [(19,(.bool false))] [Vf] (ci (show(AVle (.bool (decide (a5≤(Ao (a5+(Ao (Bg (aD*a9)))))))) (.bool false)) from(Dm hs1)) (ci (show((false==true)=true→(false==true)=true) from Fa) (ci (show((false==true)=true→(false==true)=true) from Fa) (ci (show((false==true)=true→(false==true)=true) from Fa) (ci (show((false==true)=true→(Spec Try.prog 17 [.any,(.int .u64 (Ao (a5+(Ao (Bg (aD*a9)))))),(E8 a9)] [] (.bool false) [])) from Fa) (c1 (show(false=true→(false==true)=true) from Fa))))))) ?_;cases h;exact F2 [(30000,30000),(37001,37001),(35000,35000)]
def Ax(a2:Int)(a4:Int)(i2:Int):(Int×Int×List Aa×List Int)→Option (LR (Int×Int×List Aa×List Int) (List Aa×List Int)):=
 fun((i10,i11,l12,l13):(Int×Int×List Aa×List Int))=>(bif (decide (i11<(Bg (Int.tdiv a4 (8:Int))))) then(Db (E2 (Ao (a2+(Ao (Bg ((Bg (i2*(Bg (Int.tdiv a4 (8:Int)))))+i11))))) l13.length) (Db (E2 (Ao (a2+(Ao (Bg ((Bg (i2*(Bg (Int.tdiv a4 (8:Int)))))+i11))))) (l13.set (Ao (a2+(Ao (Bg ((Bg (i2*(Bg (Int.tdiv a4 (8:Int)))))+i11))))).toNat (Nf (Int.tmod i10 (256:Int)))).length) (Db (l12.length+([(⟨true,(Ao (a2+(Ao (Bg ((Bg (i2*(Bg (Int.tdiv a4 (8:Int)))))+i11))))),((l13.set (Ao (a2+(Ao (Bg ((Bg (i2*(Bg (Int.tdiv a4 (8:Int)))))+i11))))).toNat (Nf (Int.tmod i10 (256:Int)))).getD (Ao (a2+(Ao (Bg ((Bg (i2*(Bg (Int.tdiv a4 (8:Int)))))+i11))))).toNat (0:Int))⟩:Aa)]:List Aa).length≤room) (some (.next ((Ao (Int.tdiv i10 (256:Int))),(Bg (i11+1)),(l12++([(⟨true,(Ao (a2+(Ao (Bg ((Bg (i2*(Bg (Int.tdiv a4 (8:Int)))))+i11))))),((l13.set (Ao (a2+(Ao (Bg ((Bg (i2*(Bg (Int.tdiv a4 (8:Int)))))+i11))))).toNat (Nf (Int.tmod i10 (256:Int)))).getD (Ao (a2+(Ao (Bg ((Bg (i2*(Bg (Int.tdiv a4 (8:Int)))))+i11))))).toNat (0:Int))⟩:Aa)]:List Aa)),(l13.set (Ao (a2+(Ao (Bg ((Bg (i2*(Bg (Int.tdiv a4 (8:Int)))))+i11))))).toNat (Nf (Int.tmod i10 (256:Int)))))))))) else(some (.done (l12,l13))))
def Ap(a2:Int)(a4:Int)(aA:List Int):(Int×List Aa×List Int)→Option (LR (Int×List Aa×List Int) ((List Aa×List Int) ⊕ (Int×List Aa×List Int))):=
 fun((i2,l3,l4):(Int×List Aa×List Int))=>(bif (decide (i2<(aA.length:Int))) then((A6 a2 (Bg (Int.tdiv a4 (8:Int))) i2 l4 l3).bind fun x7=>(Db (l4.length=x7.2.2.length) (bif (!x7.1) then(some (.done (.inr ((8:Int),x7.2.1,x7.2.2)))) else(Db (E2 i2 aA.length) ((Bh (Ax a2 a4 i2) ((aA.getD i2.toNat 0),(0:Int),x7.2.1,x7.2.2)).bind (fun(l14,l15)=>(some (.next ((Bg (i2+1)),l14,l15))))))))) else(some (.done (.inl (l3,l4)))))
def Em(Γ:Dd)(a2:Int)(a4:Int)(aA:List Int)(a0:List Int)(a1:List Aa)(r:(Int×List Aa×List Int)):Exit→St→Prop:=fK Try.prog Γ Try.f12.results.toList (Z1 32 a0 a1 a1.length) (E8 r.1) (Z1 32 r.2.2 r.2.1 r.2.1.length)
def Wg(l13:List Int)(a2:Int)(i2:Int)(a4:Int)(i11:Int)(i10:Int):=(l13.set (Ao (a2+(Ao (Bg ((Bg (i2*(Bg (Int.tdiv a4 (8:Int)))))+i11))))).toNat (Nf (Int.tmod i10 (256:Int))))
def Xb(a2:Int)(i2:Int)(a4:Int)(i11:Int)(l13:List Int)(i10:Int):=([(⟨true,(Ao (a2+(Ao (Bg ((Bg (i2*(Bg (Int.tdiv a4 (8:Int)))))+i11))))),((Wg l13 a2 i2 a4 i11 i10).getD (Ao (a2+(Ao (Bg ((Bg (i2*(Bg (Int.tdiv a4 (8:Int)))))+i11))))).toNat (0:Int))⟩:Aa)]:List Aa)
def Be(a2:Int)(a4:Int)(aA:List Int)(a0:List Int)(a1:List Aa):Option (Int×List Aa×List Int):=
 ((Bt a4 (aA.length:Int)).bind fun x1=>(bif (!x1) then(some ((1:Int),a1,a0)) else((Bh (Ap a2 a4 aA) ((0:Int),a1,a0)).bind (fun x21=>(match x21 with|(.inl (l5,l6))=>(some ((0:Int),l5,l6))|(.inr r23)=>(some r23))))))
theorem Eg(a2:Int)(a4:Int)(aA:List Int)(a0:List Int)(a1:List Aa)(r:(Int×List Aa×List Int))(h:Be a2 a4 aA a0 a1=some r):Spec Try.prog 12 [(.ptr 30000 0),(.int .u64 a2),(.int .i64 a4),(AV.list 1 B6 0 aA .none)] [(30000,.row 32 [(.vsl 35000 a0.length),(AV.list 3 Ah default a1 (.own 37001))]),(37001,.tok 3 49 a1.length),(35000,.arr 1 5 a0.length (fun i=>eU8 (a0.getD i 0)))] (.int .i64 r.1) [(30000,.row 32 [(.vsl 35000 r.2.2.length),(AV.list 3 Ah default r.2.1 (.own 37001))]),(37001,.tok 3 49 r.2.1.length),(35000,.arr 1 5 r.2.2.length (fun i=>eU8 (r.2.2.getD i 0)))]:=by
 refine A7 mix Try.func12 (fun Γ hq=>?_);unfold Be at h;refine Br hq [0,1,2,3] [30000,35000,37001] ?_;obtain⟨x1,hx1,h⟩:=bind_some h;refine gR hq [0,1,2,3,18] [30000,35000,37001] [] [⟨[],[],(.bool x1),[],[]⟩] (c1 (Du a4 (aA.length:Int) x1 hx1)) ?_;refine gC h (fun h=>?_) (fun h=>?_)
 ·refine Br hq [8] [30000,35000,37001] ?_;cases h;exact F2 [(30000,30000),(37001,37001),(35000,35000)]
 ·refine gR hq [0,1,3,9] [30000,35000,37001] [] [] (c1 (show((8:Int)≠0) from(by decide))) ?_;refine Br hq [0,1,3,9,10] [30000,35000,37001] ?_;obtain⟨x21,hx21,h⟩:=bind_some h;refine gL hq hx21 [0,1,3,9,10] [30000,35000,37001] (fun u (i2,l3,l4)=>(Lv u [(10,(E8 i2))] (Z2 30000 32 35000 l4 l3 37001 l3.length))) (fun u x_=>match x_ with|(.inl (l5,l6))=>aG Γ (.exit 0) (⟨[],(Z2 30000 32 35000 l6 l5 37001 l5.length),[]⟩:St)|(.inr r_)=>aR (Em Γ a2 a4 aA a0 a1 r_)) ?_ ?_
  ·rintro⟨i2,l3,l4⟩ y h;unfold Ap at h;refine Br hq [0,1,3,9,10,24] [30000,35000,37001] ?_;refine gC h (fun h=>?_) (fun h=>?_)
   ·obtain⟨x7,hx7,h⟩:=bind_some h;obtain⟨hc8,h⟩:=Ad h;refine gR hq [0,1,3,9,10,32] [30000,35000,37001] [] [(Z6 x7.1 32 x7.2.2 x7.2.1 x7.2.1.length)] (c1 (C4 a2 (Bg (Int.tdiv a4 (8:Int))) i2 l4 l3 x7 hx7)) ?_;refine gC h (fun h=>?_) (fun h=>?_)
    ·refine Br hq [8] [30000,35000,37001] ?_;cases h;exact gO (Nm (Ke [(30000,30000),(37001,37001),(35000,35000)] (Le.refl _ _)))
    ·obtain⟨hc9,h⟩:=Ad h;refine gR hq [0,1,3,9,10,11] [30000,35000,37001] [] [] (c1 hc9) ?_;refine Br hq [0,1,3,9,10,11,12] [30000,35000,37001] ?_;obtain⟨x19,hx19,h⟩:=bind_some h;refine gL hq hx19 [0,1,3,9,10,11,12] [30000,35000,37001] (fun u (i10,i11,l12,l13)=>(Lv u [(11,(.int .u64 i10)),(12,(E8 i11))] (Z2 30000 32 35000 l13 l12 37001 l12.length))) (fun u (l14,l15)=>aG Γ (.exit 2) (Wb [0,1,3,9,10] [30000,35000,37001] u [] (Z2 30000 32 35000 l15 l14 37001 l14.length))) ?_ ?_
     ·rintro⟨i10,i11,l12,l13⟩ y h;unfold Ax at h;refine Br hq [0,1,3,9,10,11,12,39] [30000,35000,37001] ?_;refine gC h (fun h=>?_) (fun h=>?_)
      ·refine Br hq [0,1,3,9,10,11,12,13] [30000,35000,37001] ?_;obtain⟨hc16,h⟩:=Ad h;refine gR hq [0,1,3,9,10,11,12,13] [30000,35000,37001] [] [] (ci (show((256:Int)≠0) from(by decide)) (ci hc16 (c1 (Eq.refl l13.length)))) ?_;refine U5 (Le.trans (Wt 35000 (show ∀ k_,k_<l13.length→AVleL ((fun i_=>AV.eraseAll (fun n_=>Co n_ [30000,35000,37001]) ((I4 (fun i=>eU8 (l13.getD i 0)) (Ao (a2+(Ao (Bg ((Bg (i2*(Bg (Int.tdiv a4 (8:Int)))))+i11))))).toNat 0 [(.int .u8 (Nf (Int.tmod i10 (256:Int))))]) i_)) k_) ((fun i=>eU8 ((Wg l13 a2 i2 a4 i11 i10).getD i 0)) k_) from(G4 (List.length_set ..).symm (fun k_ hk_=>(congrArg (AV.eraseAll (fun n_=>Co n_ [30000,35000,37001])) ((Ig (fun _ _=>rfl) (Jy hc16) rfl) k_ hk_)).trans rfl)))) (Wu (fun(k_:Nat) u=>(Lv u [] [(Z3 30000 32 35000 k_ l12 37001),(35000,.arr 1 5 k_ (fun i=>eU8 ((Wg l13 a2 i2 a4 i11 i10).getD i 0)))])) (show l13.length=(Wg l13 a2 i2 a4 i11 i10).length from(List.length_set ..).symm))) ?_;obtain⟨hc17,h⟩:=Ad h;obtain⟨hc18,h⟩:=Ad h;refine gR hq [0,1,3,9,10,11,12] [30000,35000,37001] (Z5 73 (Xb a2 i2 a4 i11 l13 i10) 74 l12) [] (ci hc17 (ci (Eq.refl ((Wg l13 a2 i2 a4 i11 i10).length)) (ci (Es 3 Ah (default:Aa) (Xb a2 i2 a4 i11 l13 i10)) (ci (Eq.refl l12.length) (ci hc18 (ci (Gz 3 37001 Ah (default:Aa) l12 (Xb a2 i2 a4 i11 l13 i10)) (c1 (G5 l12 (Xb a2 i2 a4 i11 l13 i10))))))))) ?_;refine gR hq [0,1,3,9,10,11,12] [30000,35000,37001] [] [] (c1 (show((256:Int)≠0) from(by decide))) ?_;refine Br hq [0,1,3,9,10,11,12] [30000,35000,37001] ?_;cases h;exact gN Ng
      ·cases h;exact gO (J5 (Fd [0,1,3,9,10] [30000,35000,37001] hq))
     ·clear hx19;rcases x19 with⟨l14,l15⟩;refine gA ?_;refine Br hq [0,1,3,9,10] [30000,35000,37001] ?_;cases h;exact gN Ng
   ·cases h;exact gO (J5 (Fd [] [30000,35000,37001] hq))
  ·clear hx21;rcases x21 with⟨l5,l6⟩|r23
   ·refine gA ?_;refine Br hq [8] [30000,35000,37001] ?_;cases h;exact F2 [(30000,30000),(37001,37001),(35000,35000)]
   ·refine Tt (fun st' hk=>?_);obtain rfl:=OI h;exact gK hk
def A1(a2:Int)(a4:Int)(i3:Int)(x9:(Bool×List Aa×List Int)):(Int×Int)→Option (LR (Int×Int) Int):=
 fun((i11,i12):(Int×Int))=>(bif (decide (((0:Int):Int)≤i12)) then(Db (E2 (Ao (a2+(Ao (Bg ((Bg (i3*(Bg (Int.tdiv a4 (8:Int)))))+i12))))) x9.2.2.length) (some (.next ((Ao ((Ao (i11*256))+(Ao (x9.2.2.getD (Ao (a2+(Ao (Bg ((Bg (i3*(Bg (Int.tdiv a4 (8:Int)))))+i12))))).toNat (0:Int))))),(Bg (i12-1)))))) else(some (.done i11)))
def A2(a2:Int)(a4:Int)(i3:Int)(x9:(Bool×List Aa×List Int)):(Int×List Aa)→Option (LR (Int×List Aa) (List Aa)):=
 fun((i17,l18):(Int×List Aa))=>(bif (decide (i17<(Bg (Int.tdiv a4 (8:Int))))) then(Db (E2 (Ao (a2+(Ao (Bg ((Bg (i3*(Bg (Int.tdiv a4 (8:Int)))))+i17))))) x9.2.2.length) (Db (l18.length+([(⟨false,(Ao (a2+(Ao (Bg ((Bg (i3*(Bg (Int.tdiv a4 (8:Int)))))+i17))))),(x9.2.2.getD (Ao (a2+(Ao (Bg ((Bg (i3*(Bg (Int.tdiv a4 (8:Int)))))+i17))))).toNat (0:Int))⟩:Aa)]:List Aa).length≤room) (some (.next ((Bg (i17+1)),(l18++([(⟨false,(Ao (a2+(Ao (Bg ((Bg (i3*(Bg (Int.tdiv a4 (8:Int)))))+i17))))),(x9.2.2.getD (Ao (a2+(Ao (Bg ((Bg (i3*(Bg (Int.tdiv a4 (8:Int)))))+i17))))).toNat (0:Int))⟩:Aa)]:List Aa))))))) else(some (.done l18)))
def As(a2:Int)(a4:Int)(aA:Int):(List Int×Int×List Aa×List Int)→Option (LR (List Int×Int×List Aa×List Int) ((List Int×List Aa×List Int) ⊕ (List Int×Int×List Aa×List Int))):=
 fun((l2,i3,l4,l5):(List Int×Int×List Aa×List Int))=>(bif (decide (i3<aA)) then((A6 a2 (Bg (Int.tdiv a4 (8:Int))) i3 l5 l4).bind fun x9=>(Db (l5.length=x9.2.2.length) (bif (!x9.1) then(some (.done (.inr (([]:List Int),(8:Int),x9.2.1,x9.2.2)))) else((Bh (A1 a2 a4 i3 x9) ((0:Int),(Bg ((Bg (Int.tdiv a4 (8:Int)))-1)))).bind (fun x15=>((Bh (A2 a2 a4 i3 x9) ((0:Int),x9.2.1)).bind (fun x22=>(Db (l2.length+([x15]:List Int).length≤room) (some (.next ((l2++([x15]:List Int)),(Bg (i3+1)),x22,x9.2.2))))))))))) else(some (.done (.inl (l2,l4,l5)))))
def E3(Γ:Dd)(a2:Int)(a4:Int)(aA:Int)(a0:List Int)(a1:List Aa)(r:(List Int×Int×List Aa×List Int)):Exit→St→Prop:=fK Try.prog Γ Try.f14.results.toList (Z1 32 a0 a1 a1.length) (.tuple [(AV.list 1 B6 0 r.1 (.own 20000)),(E8 r.2.1)]) [(Z3 30000 32 35000 r.2.2.2.length r.2.2.1 37001),(Io 37001 r.2.2.1.length),(Z4 35000 r.2.2.2),(20000,.tok 1 33 r.1.length)]
def Xe(a0:List Int):=(fun i=>eU8 (a0.getD i 0))
def Tv:AV:=(AV.list 1 B6 0 ([]:List Int) .exact)
def Xd(a0:List Int)(a1:List Aa):List AV:=[(.vsl 35000 a0.length),(Wi a1 37001)]
def Xp(a0:List Int)(a1:List Aa):List (Nat×Own):=[(30000,.row 32 (Xd a0 a1)),(35000,.arr 1 5 a0.length (Xe a0)),(Io 37001 a1.length)]
def Yg(a2:Int)(aA:Int)(a4:Int):List (Nat×AV):=[(0,(.ptr 30000 0)),(1,(.int .u64 a2)),(3,(E8 aA)),(10,(AV.list 1 B6 0 ([]:List Int) (.own 5010))),(11,(.int .i64 (Bg (Int.tdiv a4 (8:Int))))),(12,U1)]
def Yf(x9:(Bool×List Aa×List Int)):List (Nat×Own):=(Z2 30000 32 35000 x9.2.2 x9.2.1 37001 x9.2.1.length)
def Xc(a2:Int)(i3:Int)(a4:Int)(i17:Int)(x9:(Bool×List Aa×List Int)):=([(⟨false,(Ao (a2+(Ao (Bg ((Bg (i3*(Bg (Int.tdiv a4 (8:Int)))))+i17))))),(x9.2.2.getD (Ao (a2+(Ao (Bg ((Bg (i3*(Bg (Int.tdiv a4 (8:Int)))))+i17))))).toNat (0:Int))⟩:Aa)]:List Aa)
def Yh(a0:List Int)(a1:List Aa):=(⟨[Xi,(9,Ty)],(Z9 6008 (Xd a0 a1) a0.length (Xe a0) a1.length),[]⟩:St)
def Ye(x9:(Bool×List Aa×List Int)):=(⟨[Xi,V7],(Z8 32 x9.2.2.length x9.2.1 x9.2.2 x9.2.1.length),[]⟩:St)
def Bi(a2:Int)(a4:Int)(aA:Int)(a0:List Int)(a1:List Aa):Option (List Int×Int×List Aa×List Int):=
 ((Bt a4 aA).bind fun x1=>(bif (!x1) then(some (([]:List Int),(1:Int),a1,a0)) else((Bh (As a2 a4 aA) (([]:List Int),(0:Int),a1,a0)).bind (fun x25=>(match x25 with|(.inl (l6,l7,l8))=>(some (l6,(0:Int),l7,l8))|(.inr r27)=>(some r27))))))
theorem Eo(a2:Int)(a4:Int)(aA:Int)(a0:List Int)(a1:List Aa)(r:(List Int×Int×List Aa×List Int))(h:Bi a2 a4 aA a0 a1=some r):Spec Try.prog 14 [(.ptr 30000 0),(.int .u64 a2),(.int .i64 a4),(.int .i64 aA)] [(30000,.row 32 [(.vsl 35000 a0.length),(AV.list 3 Ah default a1 (.own 37001))]),(37001,.tok 3 49 a1.length),(35000,.arr 1 5 a0.length (fun i=>eU8 (a0.getD i 0)))] (.tuple [(AV.list 1 B6 0 r.1 (.own 20000)),(.int .i64 r.2.1)]) [(30000,.row 32 [(.vsl 35000 r.2.2.2.length),(AV.list 3 Ah default r.2.2.1 (.own 37001))]),(37001,.tok 3 49 r.2.2.1.length),(35000,.arr 1 5 r.2.2.2.length (fun i=>eU8 (r.2.2.2.getD i 0))),(20000,.tok 1 33 r.1.length)]:=by
 refine A7 mix Try.func14 (fun Γ hq=>?_);unfold Bi at h;refine gR hq [0,1,2,3] [30000,35000,37001] [(8,Tv)] [] (c1 (Cz 1 B6 (0:Int))) ?_;obtain⟨x1,hx1,h⟩:=bind_some h;refine gR hq [0,1,2,3,20] [30000,35000,37001] [] [⟨[],[],(.bool x1),[],[]⟩] (c1 (Du a4 aA x1 hx1)) ?_;refine gC h (fun h=>?_) (fun h=>?_)
 ·refine gR hq [8,9] [30000,35000,37001] [(8,Tv)] [] (c1 (Cz 1 B6 (0:Int))) ?_;refine T5 (⟨[(8,Tv),(9,Ty)],(Xp a0 a1),[]⟩:St) ?_;cases h;exact gK (e:=.ret) (Ke [(30000,30000),(37001,37001),(35000,35000),(6008,20000)] (show Le Γ _ (Yh a0 a1) from Le.trans (Fd (st':=⟨[(8,Tv),(9,Ty)],(Xp a0 a1),[]⟩) [8,9] [30000,35000,37001] hq) (Le.trans (It (t:=8) (nm:=6008) (sz':=1) (fun i=>B6 (([]:List Int).getD i 0)) 33 rfl rfl (.inl ⟨rfl,rfl⟩) (fun h_=>absurd h_ (by decide))) (Fd (st':=(Yh a0 a1)) [8,9] [6008,30000,35000,37001] hq))))
 ·refine gR hq [0,1,2,3,10] [30000,35000,37001] [(10,Tv)] [] (c1 (Cz 1 B6 (0:Int))) ?_;refine gR hq [0,1,3,10,11] [30000,35000,37001] [] [] (c1 (show((8:Int)≠0) from(by decide))) ?_;refine Br hq [0,1,3,10,11,12] [30000,35000,37001] ?_;refine U5 (st':=⟨(Yg a2 aA a4),(Z9 5010 (Xd a0 a1) a0.length (Xe a0) a1.length),[]⟩) (Le.trans (Fd (st':=⟨[(0,(.ptr 30000 0)),(1,(.int .u64 a2)),(3,(E8 aA)),(10,Tv),(11,(.int .i64 (Bg (Int.tdiv a4 (8:Int))))),(12,U1)],(Xp a0 a1),[]⟩) [0,1,3,10,11,12] [30000,35000,37001] hq) (Le.trans (It (t:=10) (nm:=5010) (sz':=1) (fun i=>B6 (([]:List Int).getD i 0)) 33 rfl rfl (.inl ⟨rfl,rfl⟩) (fun h_=>absurd h_ (by decide))) (Fd (st':=⟨(Yg a2 aA a4),(Z9 5010 (Xd a0 a1) a0.length (Xe a0) a1.length),[]⟩) [0,1,3,10,11,12] [5010,30000,35000,37001] hq))) ?_;obtain⟨x25,hx25,h⟩:=bind_some h;refine gL hq hx25 [0,1,3,10,11,12] [5010,30000,35000,37001] (fun u (l2,i3,l4,l5)=>(Lv u [(10,(AV.list 1 B6 0 l2 (.own 5010))),(12,(E8 i3))] (Xv 5010 l2.length 32 l5.length l4 l5 l4.length))) (fun u x_=>match x_ with|(.inl (l6,l7,l8))=>aG Γ (.exit 0) (⟨[(10,(AV.list 1 B6 0 l6 (.own 5010)))],(Xv 5010 l6.length 32 l8.length l7 l8 l7.length),[]⟩:St)|(.inr r_)=>aR (E3 Γ a2 a4 aA a0 a1 r_)) ?_ ?_
  ·rintro⟨l2,i3,l4,l5⟩ y h;unfold As at h;refine Br hq [0,1,3,10,11,12,25] [5010,30000,35000,37001] ?_;refine gC h (fun h=>?_) (fun h=>?_)
   ·obtain⟨x9,hx9,h⟩:=bind_some h;obtain⟨hc10,h⟩:=Ad h;refine gR hq [0,1,3,10,11,12,33] [5010,30000,35000,37001] [] [(Z6 x9.1 32 x9.2.2 x9.2.1 x9.2.1.length)] (c1 (C4 a2 (Bg (Int.tdiv a4 (8:Int))) i3 l5 l4 x9 hx9)) ?_;refine gC h (fun h=>?_) (fun h=>?_)
    ·refine gR hq [8,9] [30000,35000,37001] [(8,Tv)] [] (c1 (Cz 1 B6 (0:Int))) ?_;refine T5 (⟨[(8,Tv),V7],(Yf x9),[]⟩:St) ?_;cases h;exact gO (Nm (Ke [(30000,30000),(37001,37001),(35000,35000),(6008,20000)] (show Le Γ _ (Ye x9) from Le.trans (Fd (st':=⟨[(8,Tv),V7],(Yf x9),[]⟩) [8,9] [30000,35000,37001] hq) (Le.trans (It (t:=8) (nm:=6008) (sz':=1) (fun i=>B6 (([]:List Int).getD i 0)) 33 rfl rfl (.inl ⟨rfl,rfl⟩) (fun h_=>absurd h_ (by decide))) (Fd (st':=(Ye x9)) [8,9] [6008,30000,35000,37001] hq)))))
    ·refine Br hq [0,1,3,10,11,12,13] [5010,30000,35000,37001] ?_;refine Br hq [0,1,3,10,11,12,13,14] [5010,30000,35000,37001] ?_;obtain⟨x15,hx15,h⟩:=bind_some h;refine gL hq hx15 [0,1,3,10,11,12,13,14] [5010,30000,35000,37001] (fun u (i11,i12)=>(Lv u [(13,(.int .u64 i11)),(14,(E8 i12))] [])) (fun u i13=>aG Γ (.exit 2) (Wb [0,1,3,10,11,12,13] [5010,30000,35000,37001] u [(13,(.int .u64 i13))] [])) ?_ ?_
     ·rintro⟨i11,i12⟩ y h;unfold A1 at h;refine Br hq [0,1,3,10,11,12,13,14,37] [5010,30000,35000,37001] ?_;refine gC h (fun h=>?_) (fun h=>?_)
      ·obtain⟨hc14,h⟩:=Ad h;refine gR hq [0,1,3,10,11,12,13,14] [5010,30000,35000,37001] [] [] (ci hc14 (c1 (Eq.refl x9.2.2.length))) ?_;refine Br hq [0,1,3,10,11,12,13,14] [5010,30000,35000,37001] ?_;cases h;exact gN Ng
      ·cases h;exact gO (J5 (Fd [0,1,3,10,11,12,13] [5010,30000,35000,37001] hq))
     ·clear hx15;refine gA ?_;refine Br hq [0,1,3,10,11,12,13,15] [5010,30000,35000,37001] ?_;obtain⟨x22,hx22,h⟩:=bind_some h;refine gL hq hx22 [0,1,3,10,11,12,13,15] [5010,30000,35000,37001] (fun u (i17,l18)=>(Lv u [(15,(E8 i17))] [(Z3 30000 32 35000 x9.2.2.length l18 37001),(Io 37001 l18.length)])) (fun u l19=>aG Γ (.exit 4) (Wb [0,1,3,10,11,12,13] [5010,30000,35000,37001] u [] [(Z3 30000 32 35000 x9.2.2.length l19 37001),(Io 37001 l19.length)])) ?_ ?_
      ·rintro⟨i17,l18⟩ y h;unfold A2 at h;refine Br hq [0,1,3,10,11,12,13,15,60] [5010,30000,35000,37001] ?_;refine gC h (fun h=>?_) (fun h=>?_)
       ·refine Br hq [0,1,3,10,11,12,13,15,16] [5010,30000,35000,37001] ?_;obtain⟨hc20,h⟩:=Ad h;obtain⟨hc21,h⟩:=Ad h;refine gR hq [0,1,3,10,11,12,13,15] [5010,30000,35000,37001] (Z5 85 (Xc a2 i3 a4 i17 x9) 86 l18) [] (ci hc20 (ci (Eq.refl x9.2.2.length) (ci (Es 3 Ah (default:Aa) (Xc a2 i3 a4 i17 x9)) (ci (Eq.refl l18.length) (ci hc21 (ci (Gz 3 37001 Ah (default:Aa) l18 (Xc a2 i3 a4 i17 x9)) (c1 (G5 l18 (Xc a2 i3 a4 i17 x9))))))))) ?_;refine Br hq [0,1,3,10,11,12,13,15] [5010,30000,35000,37001] ?_;cases h;exact gN Ng
       ·cases h;exact gO (J5 (Fd [0,1,3,10,11,12,13] [5010,30000,35000,37001] hq))
      ·clear hx22;refine gA ?_;obtain⟨hc24,h⟩:=Ad h;refine gR hq [0,1,3,10,11,12] [5010,30000,35000,37001] [(91,(AV.list 1 B6 0 ([x15]:List Int) .exact)),(92,(AV.list 1 B6 0 (l2++([x15]:List Int)) (.own 5010)))] [] (ci (Es 1 B6 (0:Int) ([x15]:List Int)) (ci (Eq.refl l2.length) (ci hc24 (ci (Gz 1 5010 B6 (0:Int) l2 ([x15]:List Int)) (c1 (G5 l2 ([x15]:List Int))))))) ?_;refine Br hq [0,1,3,10,11,12] [5010,30000,35000,37001] ?_;cases h;exact gN Ng
   ·cases h;exact gO (J5 (Fd [10] [5010,30000,35000,37001] hq))
  ·clear hx25;rcases x25 with⟨l6,l7,l8⟩|r27
   ·refine gA ?_;refine Br hq [8,9] [5010,30000,35000,37001] ?_;cases h;exact F2 [(30000,30000),(37001,37001),(35000,35000),(5010,20000)]
   ·refine Tt (fun st' hk=>?_);obtain rfl:=OI h;exact gK hk
def C7(a8:List Int)(a3:List Int):Int→Option (LR Int (Unit ⊕ Bool)):=
 fun(i1:Int)=>(bif (decide (i1<(a8.length:Int))) then(Db (E2 i1 a8.length) (Db (E2 i1 a3.length) (bif (((a8.getD i1.toNat 0):Int)!=(a3.getD i1.toNat 0)) then(some (.done (.inr false))) else(some (.next (Bg (i1+1))))))) else(some (.done (.inl ()))))
def F1(Γ:Dd)(a8:List Int)(a3:List Int)(r:Bool):Exit→St→Prop:=fK Try.prog Γ Try.f15.results.toList [] (.bool r) []
def Cc(a8:List Int)(a3:List Int):Option Bool:=
 (bif (((a8.length:Int):Int)!=(a3.length:Int)) then(some false) else((Bh (C7 a8 a3) (0:Int)).bind (fun x4=>(match x4 with|(.inl _)=>(some true)|(.inr r6)=>(some r6)))))
theorem Fs(a8:List Int)(a3:List Int)(r:Bool)(h:Cc a8 a3=some r):Spec Try.prog 15 [(AV.list 1 B6 0 a8 .none),(AV.list 1 B6 0 a3 .none)] [] (.bool r) []:=by
 refine A7 mix Try.func15 (fun Γ hq=>?_);unfold Cc at h;refine Br hq [0,1] [] ?_;refine Br hq [0,1,10] [] ?_;refine gC h (fun h=>?_) (fun h=>?_)
 ·refine Br hq [4] [] ?_;obtain rfl:=OI h;exact F2 []
 ·refine Br hq [0,1,5] [] ?_;obtain⟨x4,hx4,h⟩:=bind_some h;refine gL hq hx4 [0,1,5] [] (fun u i1=>(Lv u [(5,(E8 i1))] [])) (fun u x_=>match x_ with|(.inl _)=>aG Γ (.exit 0) (⟨[],[],[]⟩:St)|(.inr r_)=>aR (F1 Γ a8 a3 r_)) ?_ ?_
  ·intro i1 y h;unfold C7 at h;refine Br hq [0,1,5,14] [] ?_;refine gC h (fun h=>?_) (fun h=>?_)
   ·obtain⟨hc2,h⟩:=Ad h;obtain⟨hc3,h⟩:=Ad h;refine gR hq [0,1,5,25] [] [] [] (ci hc2 (c1 hc3)) ?_;refine gC h (fun h=>?_) (fun h=>?_)
    ·refine Br hq [4] [] ?_;cases h;exact gO (Nm (Ke [] (Le.refl _ _)))
    ·refine Br hq [0,1,5] [] ?_;cases h;exact gN Ng
   ·cases h;exact gO (J5 (Fd [] [] hq))
  ·clear hx4;rcases x4 with _|r6
   ·refine gA ?_;refine Br hq [4] [] ?_;obtain rfl:=OI h;exact F2 []
   ·refine Tt (fun st' hk=>?_);obtain rfl:=OI h;exact gK hk
def Bo(a8:List Int)(a3:List Int):Int→Option (LR Int (Unit ⊕ Bool)):=
 fun(i1:Int)=>(bif (decide (i1<(a8.length:Int))) then(Db (E2 i1 a8.length) (Db (E2 i1 a3.length) (bif (((a8.getD i1.toNat 0):Int)!=(a3.getD i1.toNat 0)) then(some (.done (.inr false))) else(some (.next (Bg (i1+1))))))) else(some (.done (.inl ()))))
def F5(Γ:Dd)(a8:List Int)(a3:List Int)(r:Bool):Exit→St→Prop:=fK Try.prog Γ Try.f18.results.toList [] (.bool r) []
def B0(a8:List Int)(a3:List Int):Option Bool:=
 (bif (((a8.length:Int):Int)!=(a3.length:Int)) then(some false) else((Bh (Bo a8 a3) (0:Int)).bind (fun x4=>(match x4 with|(.inl _)=>(some true)|(.inr r6)=>(some r6)))))
theorem Dk(a8:List Int)(a3:List Int)(r:Bool)(h:B0 a8 a3=some r):Spec Try.prog 18 [(AV.list 1 eU8 0 a8 .none),(AV.list 1 eU8 0 a3 .none)] [] (.bool r) []:=by
 refine A7 mix Try.func18 (fun Γ hq=>?_);unfold B0 at h;refine Br hq [0,1] [] ?_;refine Br hq [0,1,10] [] ?_;refine gC h (fun h=>?_) (fun h=>?_)
 ·refine Br hq [4] [] ?_;obtain rfl:=OI h;exact F2 []
 ·refine Br hq [0,1,5] [] ?_;obtain⟨x4,hx4,h⟩:=bind_some h;refine gL hq hx4 [0,1,5] [] (fun u i1=>(Lv u [(5,(E8 i1))] [])) (fun u x_=>match x_ with|(.inl _)=>aG Γ (.exit 0) (⟨[],[],[]⟩:St)|(.inr r_)=>aR (F5 Γ a8 a3 r_)) ?_ ?_
  ·intro i1 y h;unfold Bo at h;refine Br hq [0,1,5,14] [] ?_;refine gC h (fun h=>?_) (fun h=>?_)
   ·obtain⟨hc2,h⟩:=Ad h;obtain⟨hc3,h⟩:=Ad h;refine gR hq [0,1,5,25] [] [] [] (ci hc2 (c1 hc3)) ?_;refine gC h (fun h=>?_) (fun h=>?_)
    ·refine Br hq [4] [] ?_;cases h;exact gO (Nm (Ke [] (Le.refl _ _)))
    ·refine Br hq [0,1,5] [] ?_;cases h;exact gN Ng
   ·cases h;exact gO (J5 (Fd [] [] hq))
  ·clear hx4;rcases x4 with _|r6
   ·refine gA ?_;refine Br hq [4] [] ?_;obtain rfl:=OI h;exact F2 []
   ·refine Tt (fun st' hk=>?_);obtain rfl:=OI h;exact gK hk
def Ba(a8:List Aa)(a3:List Aa):Int→Option (LR Int (Unit ⊕ Bool)):=
 fun(i1:Int)=>(bif (decide (i1<(a8.length:Int))) then(Db (E2 i1 a8.length) (Db (E2 i1 a3.length) (bif (!(((a8.getD i1.toNat default).Write==(a3.getD i1.toNat default).Write)&&((((a8.getD i1.toNat default).At:Int)==(a3.getD i1.toNat default).At)&&((((a8.getD i1.toNat default).Byte:Int)==(a3.getD i1.toNat default).Byte)&&true)))) then(some (.done (.inr false))) else(some (.next (Bg (i1+1))))))) else(some (.done (.inl ()))))
def E9(Γ:Dd)(a8:List Aa)(a3:List Aa)(r:Bool):Exit→St→Prop:=fK Try.prog Γ Try.f20.results.toList [] (.bool r) []
def Bp(a8:List Aa)(a3:List Aa):Option Bool:=
 (bif (((a8.length:Int):Int)!=(a3.length:Int)) then(some false) else((Bh (Ba a8 a3) (0:Int)).bind (fun x4=>(match x4 with|(.inl _)=>(some true)|(.inr r6)=>(some r6)))))
theorem E6(a8:List Aa)(a3:List Aa)(r:Bool)(h:Bp a8 a3=some r):Spec Try.prog 20 [(AV.list 3 Ah default a8 .none),(AV.list 3 Ah default a3 .none)] [] (.bool r) []:=by
 refine A7 mix Try.func20 (fun Γ hq=>?_);unfold Bp at h;refine Br hq [0,1] [] ?_;refine Br hq [0,1,10] [] ?_;refine gC h (fun h=>?_) (fun h=>?_)
 ·refine Br hq [4] [] ?_;obtain rfl:=OI h;exact F2 []
 ·refine Br hq [0,1,5] [] ?_;obtain⟨x4,hx4,h⟩:=bind_some h;refine gL hq hx4 [0,1,5] [] (fun u i1=>(Lv u [(5,(E8 i1))] [])) (fun u x_=>match x_ with|(.inl _)=>aG Γ (.exit 0) (⟨[],[],[]⟩:St)|(.inr r_)=>aR (E9 Γ a8 a3 r_)) ?_ ?_
  ·intro i1 y h;unfold Ba at h;refine Br hq [0,1,5,14] [] ?_;refine gC h (fun h=>?_) (fun h=>?_)
   ·obtain⟨hc2,h⟩:=Ad h;obtain⟨hc3,h⟩:=Ad h;refine gR hq [0,1,5,25] [] [] [] (ci hc2 (c1 hc3)) ?_;refine gC h (fun h=>?_) (fun h=>?_)
    ·refine Br hq [4] [] ?_;cases h;exact gO (Nm (Ke [] (Le.refl _ _)))
    ·refine Br hq [0,1,5] [] ?_;cases h;exact gN Ng
   ·cases h;exact gO (J5 (Fd [] [] hq))
  ·clear hx4;rcases x4 with _|r6
   ·refine gA ?_;refine Br hq [4] [] ?_;obtain rfl:=OI h;exact F2 []
   ·refine Tt (fun st' hk=>?_);obtain rfl:=OI h;exact gK hk
def A0 :(Int×List Int)→Option (LR (Int×List Int) Unit):=
 fun((i6,l7):(Int×List Int))=>(bif (decide (i6<(l7.length:Int))) then(Db (E2 i6 l7.length) (Db (E2 i6 l7.length) (some (.next ((Bg (i6+1)),(l7.set i6.toNat (Nf ((l7.getD i6.toNat 0)+1)))))))) else(some (.done ())))
def Ai(a2:List TDo):(Int×List Aa×List Int×List Aa×List Int)→Option (LR (Int×List Aa×List Int×List Aa×List Int) ((List Aa×List Int×List Aa×List Int) ⊕ Bool)):=
 fun((i13,l14,l15,l16,l17):(Int×List Aa×List Int×List Aa×List Int))=>(bif (bif (decide (i13<(a2.length:Int))) then(decide (i13<60)) else false) then(Db (E2 i13 a2.length) (bif (decide (((100:Int):Int)<(((a2.getD i13.toNat default).List).length:Int))) then(some (.done (.inr true))) else(Option.bind (α:=((List Aa×List Int×List Aa×List Int) ⊕ Bool)) (bif ((a2.getD i13.toNat default).Write) then((Cg ((a2.getD i13.toNat default).At) ((a2.getD i13.toNat default).Bits) ((a2.getD i13.toNat default).List) l17 l14).bind fun x27=>(Db (l17.length=x27.2.2.length) ((Be ((a2.getD i13.toNat default).At) ((a2.getD i13.toNat default).Bits) ((a2.getD i13.toNat default).List) l15 l16).bind fun x29=>(Db (l15.length=x29.2.2.length) (bif (x27.1 !=x29.1) then(some (.inr false)) else(some (.inl (x27.2.1,x29.2.2,x29.2.1,x27.2.2)))))))) else((B9 ((a2.getD i13.toNat default).At) ((a2.getD i13.toNat default).Bits) ((a2.getD i13.toNat default).N) l17 l14).bind fun x31=>(Db (l17.length=x31.2.2.2.length) ((Bi ((a2.getD i13.toNat default).At) ((a2.getD i13.toNat default).Bits) ((a2.getD i13.toNat default).N) l15 l16).bind fun x33=>(Db (l15.length=x33.2.2.2.length) ((Cc x31.1 x33.1).bind fun x35=>(bif (bif (!x35) then true else(x31.2.1 !=x33.2.1)) then(some (.inr false)) else(some (.inl (x31.2.2.1,x33.2.2.2,x33.2.2.1,x31.2.2.2)))))))))) (fun x36=>(match x36 with|(.inl (l23,l24,l25,l26))=>((Bj ((a2.getD i13.toNat default).At) ((a2.getD i13.toNat default).N) l26 l23).bind fun x38=>(Db (l26.length=x38.2.2.length) ((A4 ((a2.getD i13.toNat default).At) ((a2.getD i13.toNat default).N) l24 l25).bind fun x40=>(Db (l24.length=x40.2.2.length) (bif (x38.1 !=x40.1) then(some (.done (.inr false))) else(some (.next ((Bg (i13+1)),x38.2.1,x40.2.2,x40.2.1,x38.2.2))))))))|(.inr r42)=>(some (.done (.inr r42)))))))) else(some (.done (.inl (l14,l15,l16,l17)))))
def C5(Γ:Dd)(a3:List Int)(a2:List TDo)(r:Bool):Exit→St→Prop:=fK Try.prog Γ Try.f3.results.toList [] (.bool r) []
def Li(a2:List TDo)(i13:Int):=(a2.getD i13.toNat default)
def Xg:AV:=(AV.list 1 eU8 0 ([]:List Int) .exact)
def Xf(l7:List Int)(i6:Int):=(Nf ((l7.getD i6.toNat 0)+1))
def Xr:AV:=Xw
def Xq(a3:List Int):List AV:=[(.vsl 60 a3.length),Xh]
def Uy(x3:((Bool×J3)×Int)):List (Nat×Own):=(Z2 20000 63 21000 x3.1.2.bytes x3.1.2.trace 21001 x3.1.2.trace.length)
def Yk(x45:(List Int×List Aa×List Int)):List (Nat×Own):=[(Z3 30000 63 35000 x45.2.2.length x45.2.1 37001),(Io 37001 x45.2.1.length),(Z4 35000 x45.2.2),(20000,.tok 1 5 x45.1.length)]
def Yj(x49:(List Aa×List Aa×List Int)):List (Nat×Own):=[(Z3 30000 63 35000 x49.2.2.length x49.2.1 37001),(Io 37001 x49.2.1.length),(Z4 35000 x49.2.2),(Io 20000 x49.1.length)]
def Yi(a2:List TDo)(x3:((Bool×J3)×Int))(a3:List Int):=(⟨[(1,(AV.list 5 eTDo default a2 .none)),(6,(.ptr 26 0)),(9,(.ptr 62 0)),(10,U1)],[(Z3 26 63 60026000 x3.1.2.bytes.length x3.1.2.trace 60026001),(Z4 60 a3),(62,.row 32 [(.vsl 60 a3.length),(AV.list 3 Ah default ([]:List Aa) (.own 11201))]),(11201,.tok 3 49 (([]:List Aa).length)),(Z4 60026000 x3.1.2.bytes),(Io 60026001 x3.1.2.trace.length)],[]⟩:St)
def Bz(a3:List Int)(a2:List TDo):Option Bool:=
 (m_locksteplaw12_awake.bind fun x1=>(bif (!x1) then(some false) else(bif (decide (((5000:Int):Int)<(a3.length:Int))) then(some true) else(Db (a3.length≤room) ((Df a3).bind fun x3=>(bif x3.1.1 then(Db (x3.1.2.trace.length=0) (bif (decide (((4096:Int):Int)<(a3.length:Int))) then(some false) else(bif (x3.2 !=0) then(some false) else((Bh (S:=(Int×List Int)) (X:=Unit) A0 ((0:Int),a3)).bind (fun x10=>(match x10 with|_=>(Db (a3.length≤room) ((Bh (Ai a2) ((0:Int),x3.1.2.trace,a3,([]:List Aa),x3.1.2.bytes)).bind (fun x43=>(match x43 with|(.inl (l18,l19,l20,l21))=>((Ce l21 l18).bind fun x45=>(Db (l21.length=x45.2.2.length) ((B0 x45.1 l19).bind fun x47=>(bif x47 then((Cf x45.2.2 x45.2.1).bind fun x49=>(Db (x45.2.2.length=x49.2.2.length) ((Bp x49.1 l20).bind fun x51=>(some x51)))) else(some false)))))|(.inr r52)=>(some r52))))))))))) else(bif (decide (((4096:Int):Int)<(a3.length:Int))) then(some (x3.2==4)) else(some false))))))))
theorem ok_locksteplaw12_MemPlays(a3:List Int)(a2:List TDo)(r:Bool)(h:Bz a3 a2=some r):Spec Try.prog 3 [(AV.list 1 eU8 0 a3 .none),(AV.list 5 eTDo default a2 .none)] [] (.bool r) []:=by
 refine A7 mix Try.func3 (fun Γ hq=>?_);unfold Bz at h;refine Br hq [0,1] [] ?_;obtain⟨x1,hx1,h⟩:=bind_some h;refine gR hq [0,1,17] [] [] [⟨[],[],(.bool x1),[],[]⟩] (c1 (Fq  x1 hx1)) ?_;refine gC h (fun h=>?_) (fun h=>?_)
 ·refine Br hq [4] [] ?_;obtain rfl:=OI h;exact F2 []
 ·refine Br hq [0,1,20] [] ?_;refine gC h (fun h=>?_) (fun h=>?_)
  ·refine Br hq [4] [] ?_;obtain rfl:=OI h;exact F2 []
  ·obtain⟨hc2,h⟩:=Ad h;refine gR hq [0,1,5] [23] [(21,Xg),(23,.vsl 23 0)] [] (ci (show(AVle Xu Xg) from J8 rfl (fun i hi=>absurd hi (Nat.not_lt_zero i))) (c1 hc2)) ?_;obtain⟨x3,hx3,h⟩:=bind_some h;refine gB h (fun hs4 h=>?_) (fun hs4 h=>?_)
   ·obtain⟨hc5,h⟩:=Ad h;refine gR hq [0,1,5,6,7] [23,26,60026000,60026001] [] [⟨[],[(20000,26),(21000,60026000),(21001,60026001)],(.tuple [(bif true then((.ptr 20000 0):AV) else .nilp),(E8 x3.2)]),(bif true then(Uy x3) else[]),[23]⟩] (ci (show(Spec Try.prog 10 (Uz a3) [] (.tuple [(bif true then((.ptr 20000 0):AV) else .nilp),(E8 x3.2)]) (bif true then(Uy x3) else[])) from(Xj (fun b_:Bool=>Spec Try.prog 10 (Uz a3) [] (.tuple [(bif b_ then((.ptr 20000 0):AV) else .nilp),(E8 x3.2)]) (bif b_ then(Uy x3) else[])) hs4 (Ft a3 x3 hx3))) (ci (show(Hh (bif true then(Uy x3) else[])) from⟨⟨rfl,⟨trivial,⟨hc5,trivial⟩⟩⟩,⟨(fun _ _=>rfl),⟨trivial,trivial⟩⟩⟩) (c1 (Eq.refl a3.length)))) ?_;refine Br hq [0,1,5,6,7,31] [23,26,60026000,60026001] ?_;refine gC h (fun h=>?_) (fun h=>?_)
    ·refine gR hq [4] [] [] [] (ci (show((false==true)=true→(false==true)=true) from Fa) (c1 (show(false=true→(false==true)=true) from Fa))) ?_;obtain rfl:=OI h;exact F2 []
    ·refine gR hq [0,1,5,6,43] [23,26,60026000,60026001] [] [] (ci (show((false==false)=true→(false==false)=true) from(fun _=>rfl)) (c1 (show(false=false→(false==false)=true) from(fun _=>rfl)))) ?_;refine gC h (fun h=>?_) (fun h=>?_)
     ·refine Br hq [4] [] ?_;obtain rfl:=OI h;exact F2 []
     ·refine Br hq [0,1,5,6,8] [23,26,60026000,60026001] ?_;obtain⟨x10,hx10,h⟩:=bind_some h;refine gL hq hx10 [0,1,5,6,8] [23,26,60026000,60026001] (fun u (i6,l7)=>(Lv u [(5,(.vsl 23 l7.length)),(8,(E8 i6))] [(Z4 23 l7)])) (fun u _=>aG Γ (.exit 0) (Wb [0,1,6] [26,60026000,60026001] u [] [])) ?_ ?_
      ·rintro⟨i6,l7⟩ y h;unfold A0 at h;refine Br hq [0,1,5,6,8,47] [23,26,60026000,60026001] ?_;refine gC h (fun h=>?_) (fun h=>?_)
       ·obtain⟨hc8,h⟩:=Ad h;obtain⟨hc9,h⟩:=Ad h;refine gR hq [0,1,5,6,8] [23,26,60026000,60026001] [] [] (ci hc8 (ci (Eq.refl l7.length) (ci hc9 (c1 (Eq.refl l7.length))))) ?_;refine U5 (Le.trans (Wt 23 (show ∀ k_,k_<l7.length→AVleL ((fun i_=>AV.eraseAll (fun n_=>Co n_ [23,26,60026000,60026001]) ((I4 (fun i=>eU8 (l7.getD i 0)) i6.toNat 0 [(.int .u8 (Xf l7 i6))]) i_)) k_) ((fun i=>eU8 ((l7.set i6.toNat (Xf l7 i6)).getD i 0)) k_) from(G4 (List.length_set ..).symm (fun k_ hk_=>(congrArg (AV.eraseAll (fun n_=>Co n_ [23,26,60026000,60026001])) ((Ig (fun _ _=>rfl) (Jy hc9) rfl) k_ hk_)).trans rfl)))) (Wu (fun(k_:Nat) u=>(Lv u [(5,(.vsl 23 k_))] [(23,.arr 1 5 k_ (fun i=>eU8 ((l7.set i6.toNat (Xf l7 i6)).getD i 0)))])) (show l7.length=(l7.set i6.toNat (Xf l7 i6)).length from(List.length_set ..).symm))) ?_;refine Br hq [0,1,5,6,8] [23,26,60026000,60026001] ?_;cases h;exact gN Ng
       ·cases h;exact gO (J5 (Fd [0,1,6] [26,60026000,60026001] hq))
      ·clear hx10;refine gA ?_;obtain⟨hc12,h⟩:=Ad h;refine gR hq [1,6,9] [26,60,62,60026000,60026001] [(58,Xg),(60,.vsl 60 0),(61,(.agg (Xq a3)))] [] (ci (show(AVle Xu Xg) from J8 rfl (fun i hi=>absurd hi (Nat.not_lt_zero i))) (ci hc12 (c1 (show(AVle (.agg [(.vsl 60 a3.length),(.slice 0 0 (fun _=>[]) .exact)]) (.agg (Xq a3))) from(AVle.agg (.cons (AVle.refl _) (.cons Oy .nil))))))) ?_;refine Br hq [1,6,9,10] [26,60,62,60026000,60026001] ?_;refine U5 (st':=(Yi a2 x3 a3)) (Le.trans (Fd (st':=⟨[(1,(AV.list 5 eTDo default a2 .none)),(6,(.ptr 26 0)),(9,(.ptr 62 0)),(10,U1)],[(Z3 26 63 60026000 x3.1.2.bytes.length x3.1.2.trace 60026001),(Z4 60 a3),(62,.row 32 (Xq a3)),(Z4 60026000 x3.1.2.bytes),(Io 60026001 x3.1.2.trace.length)],[]⟩) [1,6,9,10] [26,60,62,60026000,60026001] hq) (Le.trans (Jg (r:=62) (j:=1) (nm:=11201) (sz':=3) (fun i=>Ah (([]:List Aa).getD i default)) 49 rfl rfl (nl rfl) rfl (.inl ⟨rfl,rfl⟩) (fun h_=>absurd h_ (by decide))) (Fd (st':=(Yi a2 x3 a3)) [1,6,9,10] [26,60,62,11201,60026000,60026001] hq))) ?_;obtain⟨x43,hx43,h⟩:=bind_some h;refine gL hq hx43 [1,6,9,10] [26,60,62,11201,60026000,60026001] (fun u (i13,l14,l15,l16,l17)=>(Lv u [(10,(E8 i13))] [(Z3 26 63 60026000 l17.length l14 60026001),(Z4 60 l15),(Z3 62 32 60 l15.length l16 11201),(Io 11201 l16.length),(Z4 60026000 l17),(Io 60026001 l14.length)])) (fun u x_=>match x_ with|(.inl (l18,l19,l20,l21))=>aG Γ (.exit 2) (⟨[(6,(.ptr 26 0)),(9,(.ptr 62 0))],[(Z3 26 63 60026000 l21.length l18 60026001),(Z4 60 l19),(Z3 62 32 60 l19.length l20 11201),(Io 11201 l20.length),(Z4 60026000 l21),(Io 60026001 l18.length)],[]⟩:St)|(.inr r_)=>aR (C5 Γ a3 a2 r_)) ?_ ?_
       ·rintro⟨i13,l14,l15,l16,l17⟩ y h;unfold Ai at h;refine gR hq [1,6,9,10,70] [26,60,62,11201,60026000,60026001] [] [] (ci (gI ((decide (i13<(a2.length:Int)))==true)) (c1 (Hu (decide (i13<(a2.length:Int)))))) ?_;refine gC h (fun h=>?_) (fun h=>?_)
        ·obtain⟨hc22,h⟩:=Ad h;refine gR hq [1,6,9,10,11] [11,26,60,62,11201,60026000,60026001] [] [] (c1 hc22) ?_;refine Br hq [1,6,9,10,11,80] [11,26,60,62,11201,60026000,60026001] ?_;refine gC h (fun h=>?_) (fun h=>?_)
         ·refine Br hq [4] [] ?_;cases h;exact gO (Nm (Ke [] (Le.refl _ _)))
         ·obtain⟨x36,hx36,h⟩:=bind_some h;refine gJ hx36 (fun x_=>match x_ with|(.inl (l23,l24,l25,l26))=>aG Γ .normal (⟨[(1,(AV.list 5 eTDo default a2 .none)),(6,(.ptr 26 0)),(9,(.ptr 62 0)),(10,(E8 i13)),(11,(.ptr 11 0))],[(11,.row 36 [(.bool (Li a2 i13).Write),(.int .u64 (Li a2 i13).At),(.int .i64 (Li a2 i13).Bits),(.int .i64 (Li a2 i13).N),(AV.list 1 B6 0 (Li a2 i13).List .none)]),(Z3 26 63 60026000 l26.length l23 60026001),(Z4 60 l24),(Z3 62 32 60 l24.length l25 11201),(Io 11201 l25.length),(Z4 60026000 l26),(Io 60026001 l23.length)],[]⟩:St)|(.inr r_)=>aR (C5 Γ a3 a2 r_)) ?_ ?_
          ·clear h hx36;intro y h;refine Br hq [1,6,9,10,11,82] [11,26,60,62,11201,60026000,60026001] ?_;refine gC h (fun h=>?_) (fun h=>?_)
           ·obtain⟨x27,hx27,h⟩:=bind_some h;obtain⟨hc28,h⟩:=Ad h;obtain⟨x29,hx29,h⟩:=bind_some h;obtain⟨hc30,h⟩:=Ad h;refine gR hq [1,6,9,10,11,99] [11,26,60,62,11201,60026000,60026001] [] [⟨[(26,30000),(60026001,37001),(60026000,35000)],[],(E8 x27.1),(Z1 63 x27.2.2 x27.2.1 x27.2.1.length),[]⟩,⟨[(62,30000),(11201,37001),(60,35000)],[],(E8 x29.1),(Z1 32 x29.2.2 x29.2.1 x29.2.1.length),[]⟩] (ci (Fe ((Li a2 i13).At) ((Li a2 i13).Bits) ((Li a2 i13).List) l17 l14 x27 hx27) (c1 (Eg ((Li a2 i13).At) ((Li a2 i13).Bits) ((Li a2 i13).List) l15 l16 x29 hx29))) ?_;refine gC h (fun h=>?_) (fun h=>?_)
            ·refine Br hq [4] [] ?_;cases h;exact gK (Nm (Ke [] (Le.refl _ _)))
            ·cases h;exact gK (J5 (Fd [1,6,9,10,11] [11,26,60,62,11201,60026000,60026001] hq))
           ·obtain⟨x31,hx31,h⟩:=bind_some h;obtain⟨hc32,h⟩:=Ad h;refine gR hq [1,6,9,10,11,12,13] [11,26,60,62,108,11201,60026000,60026001] [] [(Z7 26 60026001 60026000 108 x31.1 x31.2.1 63 x31.2.2.2.length x31.2.2.1 x31.2.2.1.length x31.2.2.2 x31.1.length)] (c1 (D2 ((Li a2 i13).At) ((Li a2 i13).Bits) ((Li a2 i13).N) l17 l14 x31 hx31)) ?_;obtain⟨x33,hx33,h⟩:=bind_some h;obtain⟨hc34,h⟩:=Ad h;refine gR hq [1,6,9,10,11,12,13,14,15] [11,26,60,62,108,119,11201,60026000,60026001] [] [(Z7 62 11201 60 119 x33.1 x33.2.1 32 x33.2.2.2.length x33.2.2.1 x33.2.2.1.length x33.2.2.2 x33.1.length)] (c1 (Eo ((Li a2 i13).At) ((Li a2 i13).Bits) ((Li a2 i13).N) l15 l16 x33 hx33)) ?_;obtain⟨x35,hx35,h⟩:=bind_some h;refine gR hq [1,6,9,10,11,130] [11,26,60,62,11201,60026000,60026001] [] [⟨[],[],(.bool x35),[],[]⟩] (ci (Fs x31.1 x33.1 x35 hx35) (ci (gI ((!x35)==false)) (ci (gI ((!x35)==false)) (c1 (Sr (!x35)))))) ?_;refine gC h (fun h=>?_) (fun h=>?_)
            ·refine Br hq [4] [] ?_;cases h;exact gK (Nm (Ke [] (Le.refl _ _)))
            ·cases h;exact gK (J5 (Fd [1,6,9,10,11] [11,26,60,62,11201,60026000,60026001] hq))
          ·clear hx36;rcases x36 with⟨l23,l24,l25,l26⟩|r42
           ·refine gA ?_;obtain⟨x38,hx38,h⟩:=bind_some h;obtain⟨hc39,h⟩:=Ad h;obtain⟨x40,hx40,h⟩:=bind_some h;obtain⟨hc41,h⟩:=Ad h;refine gR hq [1,6,9,10,143] [26,60,62,11201,60026000,60026001] [] [⟨[(26,30000),(60026001,37001),(60026000,35000)],[],(.bool x38.1),(Z1 63 x38.2.2 x38.2.1 x38.2.1.length),[]⟩,⟨[(62,30000),(11201,37001),(60,35000)],[],(.bool x40.1),(Z1 32 x40.2.2 x40.2.1 x40.2.1.length),[]⟩] (ci (B7 ((Li a2 i13).At) ((Li a2 i13).N) l26 l23 x38 hx38) (c1 (Cy ((Li a2 i13).At) ((Li a2 i13).N) l24 l25 x40 hx40))) ?_;refine gC h (fun h=>?_) (fun h=>?_)
            ·refine Br hq [4] [] ?_;cases h;exact gO (Nm (Ke [] (Le.refl _ _)))
            ·refine Br hq [1,6,9,10] [26,60,62,11201,60026000,60026001] ?_;cases h;exact gN Ng
           ·refine Tt (fun st' hk=>?_);cases h;exact gO (Nm hk)
        ·cases h;exact gO (J5 (Fd [6,9] [26,60,62,11201,60026000,60026001] hq))
       ·clear hx43;rcases x43 with⟨l18,l19,l20,l21⟩|r52
        ·refine gA ?_;obtain⟨x45,hx45,h⟩:=bind_some h;obtain⟨hc46,h⟩:=Ad h;obtain⟨x47,hx47,h⟩:=bind_some h;refine gB h (fun hs48 h=>?_) (fun hs48 h=>?_)
         ·obtain⟨x49,hx49,h⟩:=bind_some h;obtain⟨hc50,h⟩:=Ad h;obtain⟨x51,hx51,h⟩:=bind_some h;refine gR hq [4] [] [(151,(.bool true))] [(Yl x45.1 (Yk x45)),⟨[],[],(.bool x47),[],[60]⟩,⟨[(26,30000),(60026001,37001),(60026000,35000)],[(20000,153)],(Wi x49.1 20000),(Yj x49),[]⟩,⟨[],[],(.bool x51),[],[]⟩] (ci (Do l21 l18 x45 hx45) (ci (Dk x45.1 l19 x47 hx47) (ci (show(Hh []) from trivial) (ci (Eq.refl l19.length) (ci (show(AVle (.bool x47) (.bool true)) from(Dm hs48)) (ci (show((true==true)=true→(true==true)=true) from(fun _=>rfl)) (ci (show((true==true)=true→(Spec Try.prog 21 [(.ptr 30000 0)] (Z1 63 x45.2.2 x45.2.1 x45.2.1.length) (Wi x49.1 20000) (Yj x49))) from(fun _=>(C2 x45.2.2 x45.2.1 x49 hx49))) (ci (show((true==true)=true→(true==true)=true) from(fun _=>rfl)) (ci (show((true==true)=true→(true==true)=true) from(fun _=>rfl)) (ci (show((true==true)=true→(true==true)=true) from(fun _=>rfl)) (ci (show((true==true)=true→(true==true)=true) from(fun _=>rfl)) (ci (show((true==true)=true→(true==true)=true) from(fun _=>rfl)) (ci (show((true==true)=true→(Spec Try.prog 20 [(AV.list 3 Ah default x49.1 .none),(AV.list 3 Ah default l20 .none)] [] (.bool x51) [])) from(fun _=>(E6 x49.1 l20 x51 hx51))) (c1 (show(true=true→(true==true)=true) from(fun _=>rfl)))))))))))))))) ?_;obtain rfl:=OI h;exact F2 []
         ·refine gR hq [4] [] [(151,(.bool false))] [(Yl x45.1 (Yk x45)),⟨[],[],(.bool x47),[],[60]⟩,⟨[],[],Xr,[],[]⟩,Vf] (ci (Do l21 l18 x45 hx45) (ci (Dk x45.1 l19 x47 hx47) (ci (show(Hh []) from trivial) (ci (Eq.refl l19.length) (ci (show(AVle (.bool x47) (.bool false)) from(Dm hs48)) (ci (show((false==true)=true→(false==true)=true) from Fa) (ci (show((false==true)=true→(Spec Try.prog 21 [.any] [] Xr [])) from Fa) (ci (show((false==true)=true→(false==true)=true) from Fa) (ci (show((false==true)=true→(false==true)=true) from Fa) (ci (show((false==true)=true→(false==true)=true) from Fa) (ci (show((false==true)=true→(false==true)=true) from Fa) (ci (show((false==true)=true→(false==true)=true) from Fa) (ci (show((false==true)=true→(Spec Try.prog 20 [Xr,(AV.list 3 Ah default l20 .none)] [] (.bool false) [])) from Fa) (c1 (show(false=true→(false==true)=true) from Fa))))))))))))))) ?_;obtain rfl:=OI h;exact F2 []
        ·refine Tt (fun st' hk=>?_);obtain rfl:=OI h;exact gK hk
   ·refine gR hq [0,1,5,6,7] [23] [] [⟨[],[],(.tuple [(bif false then((.ptr 20000 0):AV) else .nilp),(E8 x3.2)]),(bif false then(Uy x3) else[]),[23]⟩] (ci (show(Spec Try.prog 10 (Uz a3) [] (.tuple [(bif false then((.ptr 20000 0):AV) else .nilp),(E8 x3.2)]) (bif false then(Uy x3) else[])) from(Xj (fun b_:Bool=>Spec Try.prog 10 (Uz a3) [] (.tuple [(bif b_ then((.ptr 20000 0):AV) else .nilp),(E8 x3.2)]) (bif b_ then(Uy x3) else[])) hs4 (Ft a3 x3 hx3))) (ci (show(Hh (bif false then(Uy x3) else[])) from trivial) (c1 (Eq.refl a3.length)))) ?_;refine Br hq [0,1,5,6,7,31] [23] ?_;refine gC h (fun h=>?_) (fun h=>?_)
    ·refine gR hq [4] [] [] [] (ci (show((true==true)=true→(true==true)=true) from(fun _=>rfl)) (c1 (show(true=true→(true==true)=true) from(fun _=>rfl)))) ?_;cases h;exact F2 []
    ·refine gR hq [0,1,5,6,43] [23] [] [] (ci (show((true==false)=true→(true==false)=true) from Fa) (c1 (show(true=false→(true==false)=true) from Yo))) ?_;refine Xk true ?_;refine Br hq [4] [] ?_;obtain rfl:=OI h;exact F2 []
theorem Gu{n:Int}(h:-9223372036854775808≤n)(h':n<9223372036854775808):Bg n=n:=by
 show IntKind.i64.wrap n=n
 simp only[IntKind.wrap,IntKind.bits,IntKind.signed]
 simp
 split<;>omega
theorem B2{n:Int}(h:0≤n)(h':n<18446744073709551616):Ao n=n:=by
 show IntKind.u64.wrap n=n
 simp[IntKind.wrap,IntKind.bits,IntKind.signed];omega
theorem To(n:Int):Ao n=n % 18446744073709551616:=by
 show IntKind.u64.wrap n=_
 simp[IntKind.wrap,IntKind.bits,IntKind.signed]
theorem Qj(n:Int):Nf n=n % 256:=by
 show IntKind.u8.wrap n=_
 simp[IntKind.wrap,IntKind.bits,IntKind.signed]
theorem Mb(w n:Nat)(h:n<2 ^ w):(BitVec.ofInt w (n:Int)).toNat=n:=by
 rw[BitVec.toNat_ofInt,← Int.natCast_emod,Int.toNat_natCast,Nat.mod_eq_of_lt h]
theorem On(k:IntKind)(hk:k.signed=false){n:Nat}(h:n<2 ^ k.bits):k.wrap (n:Int)=n:=by
 simp only[IntKind.wrap,hk,Bool.false_and,Bool.false_eq_true,if_false]
 have:((2:Int) ^ k.bits)=((2 ^ k.bits:Nat):Int):=by simp
 rw[this,← Int.natCast_emod,Nat.mod_eq_of_lt h]
theorem T3(k:IntKind)(hk:k.signed=false){a b:Nat}(ha:a<2 ^ k.bits)(hb:b<2 ^ k.bits):Fx .or k a b=((a ||| b:Nat):Int):=by
 simp only[Fx,BitVec.toNat_or,Mb _ _ ha,Mb _ _ hb];exact On k hk (Nat.or_lt_two_pow ha hb)
theorem Vv(k:IntKind)(hk:k.signed=false)(j:Nat){a b:Nat}(ha:a<2 ^ j)(hb:a+b*2 ^ j<2 ^ k.bits){y:Int}(hy:y=((b*2 ^ j:Nat):Int)):Fx .or k a y=((a+b*2 ^ j:Nat):Int):=by
 subst hy;rw[T3 k hk (by omega) (by omega),Nat.or_comm,Nat.mul_comm b,← Nat.two_pow_add_eq_or_of_lt ha,Nat.add_comm]
theorem Sq{x:Int}(j:Nat):x.fdiv (2 ^ j)=x / 2 ^ j:=by rw[Int.fdiv_eq_ediv_of_nonneg _ (by exact Int.le_of_lt (Int.pow_pos (by decide)))]
theorem C6{α:Type}(l:List α)(i:Nat)(d:α)(h:i<l.length):l.getD i d=l[i]:=by simp[List.getD,h]
theorem Ld{α:Type}(l:List α)(i:Nat)(d:α)(h:i<l.length):l.take (i+1)=l.take i++[l.getD i d]:=by
 rw[List.take_add_one,C6 _ _ _ h];simp[h]
theorem Kg{α:Type}{l:List α}{i:Nat}{d:α}(h:i<l.length):l.getD i d∈l:=by rw[C6 _ _ _ h];exact List.getElem_mem h
theorem T8{i n:Nat}(h:i<n):E2 (i:Int) n:=⟨by omega,by exact_mod_cast h⟩
theorem Kn{S X:Type}(f:S→Option (LR S X))(T:Nat→S)(x:X):∀(n:Nat),(∀ i,i<n→f (T i)=some (.next (T (i+1))))→f (T n)=some (.done x)→Bh f (T 0)=some x:=by
 suffices h:∀(k i n:Nat),i+k=n→(∀ j,i≤j→j<n→f (T j)=some (.next (T (j+1))))→f (T n)=some (.done x)→Bh f (T i)=some x from
  fun n h1 h2=>h n 0 n (by omega) (fun j _ hj=>h1 j hj) h2
 intro k
 induction k with
 | zero=>
  intro i n hi _ h2
  have hin:n=i:=by omega
  subst hin;exact Ay h2
 | succ k ih=>intro i n hi h1 h2;rw[Bx (h1 i (Nat.le_refl _) (by omega))];exact ih (i+1) n (by omega) (fun j hj hj'=>h1 j (by omega) hj') h2
theorem Lm{S X:Type}(f:S→Option (LR S X))(T:Nat→S):∀(n:Nat),(∀ i,i<n→f (T i)=some (.next (T (i+1))))→Bh f (T 0)=Bh f (T n):=by
 intro n
 induction n with
 | zero=>intro _;rfl
 | succ n ih=>intro h;rw[ih (fun i hi=>h i (by omega)),Bx (h n (by omega))]
theorem Q0{S X:Type}(f:S→Option (LR S X))(T:Nat→S)(p:Nat→Bool)(yes no:X)(n:Nat)(hn:∀ i,i<n→p i=true→f (T i)=some (.next (T (i+1))))(hf:∀ i,i<n→p i=false→f (T i)=some (.done no))
  (he:f (T n)=some (.done yes)):Bh f (T 0)=some (bif (List.range n).all p then yes else no):=by
 cases hall:(List.range n).all p with
 | true=>
  rw[cond_true];exact Kn f T yes n (fun i hi=>hn i hi (List.all_eq_true.1 hall i (List.mem_range.2 hi))) he
 | false=>
  rw[cond_false]
  have hex:∃ i,i<n∧p i=false:=by
   have:¬ ∀ i∈List.range n,p i=true:=fun h=>by rw[List.all_eq_true.2 h]at hall;cases hall
   simpa using this
  let P:Nat→Prop:=fun m=>m<n∧p m=false
  obtain⟨m,hm⟩:=hex
  have key:∀ m,m<n→p m=false→∃ k,k<n∧p k=false∧∀ j,j<k→p j=true:=by
   intro m
   induction m using Nat.strongRecOn with
   | ind m ih=>
    intro h1 h2
    by_cases h:∃ j,j<m∧p j=false
    ·obtain⟨j,hj,hpj⟩:=h;exact ih j hj (by omega) hpj
    ·refine⟨m,h1,h2,fun j hj=>?_⟩
     cases hpj:p j with
     | true=>rfl
     | false=>exact(h ⟨j,hj,hpj⟩).elim
  obtain⟨k,hk,hpk,hlt⟩:=key m hm.1 hm.2;rw[Lm f T k (fun i hi=>hn i (by omega) (hlt i hi))];exact Ay (hf k hk hpk)
theorem Qp{n:Nat}{p:Nat→Bool}:(List.range n).all p=true↔∀ i,i<n→p i=true:=by
 rw[List.all_eq_true];exact⟨fun h i hi=>h i (List.mem_range.2 hi),fun h i hi=>h i (List.mem_range.1 hi)⟩
theorem Bk(i:Nat):((i:Int)).toNat=i:=Int.toNat_natCast i
theorem w1{i:Nat}(h:i<4611686018427387904):Bg ((i:Int)+1)=((i+1:Nat):Int):=by rw[Gu (by omega) (by omega)];omega
theorem Dg{i n:Nat}(h:i<n):decide (((i:Nat):Int)<((n:Nat):Int))=true:=by simpa using h
theorem Fz{n:Nat}:decide (((n:Nat):Int)<((n:Nat):Int))=false:=by simp
theorem Mw{i n:Nat}(h:i<n):E2 ((i:Nat):Int) n:=T8 h
def E5(B:List Int):Prop:=∀ x∈B,0≤x∧x<256
def J9:Nat→Int→List Int
 | 0,_=>[]
 | s+1,v=>v % 256::J9 s (v / 256)
def Nh:List Int→Int
 | []=>0
 | b::l=>b+256*Nh l
def Lf(w:Bool):Nat→List Int→List Aa
 | _,[]=>[]
 | a,b::l=>⟨w,(a:Int),b⟩::Lf w (a+1) l
def Gj:List Int→Nat→List Int→List Int
 | B,_,[]=>B
 | B,a,b::l=>Gj (B.set a b) (a+1) l
def D9(B:List Int)(a s:Nat):List Int:=(B.drop a).take s
theorem Mr(s:Nat)(v:Int):(J9 s v).length=s:=by induction s generalizing v with|zero=>rfl|succ s ih=>simp[J9,ih]
theorem Vl(s:Nat)(v:Int):E5 (J9 s v):=by
 induction s generalizing v with
 | zero=>intro x hx;cases hx
 | succ s ih=>
  intro x hx;rcases List.mem_cons.1 hx with rfl|hx
  ·omega
  ·exact ih _ x hx
theorem G9(w:Bool)(a:Nat)(l:List Int):(Lf w a l).length=l.length:=by induction l generalizing a with|nil=>rfl|cons b l ih=>simp[Lf,ih]
theorem Gk(B:List Int)(a:Nat)(l:List Int):(Gj B a l).length=B.length:=by induction l generalizing B a with|nil=>rfl|cons b l ih=>simp[Gj,ih]
theorem Uk{B:List Int}{a:Nat}{l:List Int}(hB:E5 B)(hl:E5 l):E5 (Gj B a l):=by
 induction l generalizing B a with
 | nil=>exact hB
 | cons b l ih=>
  refine ih (fun x hx=>?_) fun x hx=>hl x (List.mem_cons_of_mem _ hx);rcases List.mem_or_eq_of_mem_set hx with h|h
  ·exact hB x h
  ·rw[h];exact hl b (List.mem_cons_self ..)
theorem Il{B:List Int}{a s:Nat}(h:a+s≤B.length):(D9 B a s).length=s:=by simp[D9];omega
theorem I7(B:List Int)(a:Nat):D9 B a 0=[]:=by simp[D9]
theorem Mj{B:List Int}{a s:Nat}(h:a<B.length):D9 B a (s+1)=B.getD a 0::D9 B (a+1) s:=by
 unfold D9;rw[List.drop_eq_getElem_cons h,List.take_succ_cons,C6 _ _ _ h]
theorem Rm{B:List Int}{a s:Nat}(h:a+s<B.length):D9 B a (s+1)=D9 B a s++[B.getD (a+s) 0]:=by
 unfold D9;rw[Ld _ _ 0 (by simp;omega)]
 congr 2
 simp[List.getD,List.getElem?_drop]
theorem P0{B:List Int}(hB:E5 B)(i:Nat):0≤B.getD i 0∧B.getD i 0<256:=by
 by_cases h:i<B.length
 ·exact hB _ (Kg h)
 ·simp[List.getD,h]
theorem Ud(l m:List Int):Nh (l++m)=Nh l+256 ^ l.length*Nh m:=by
 induction l with
 | nil=>simp[Nh]
 | cons b l ih=>simp only[List.cons_append,Nh,ih,List.length_cons,Int.pow_succ];rw[Int.mul_add,Int.add_assoc,← Int.mul_assoc,Int.mul_comm 256 (256 ^ l.length)]
theorem K1(n:Nat):(0:Int)<256 ^ n:=Int.pow_pos (by decide)
theorem Rf{i j:Nat}(h:i≤j):(256:Int) ^ i≤256 ^ j:=by
 obtain⟨k,rfl⟩:=Nat.exists_eq_add_of_le h;have:=Int.mul_le_mul_of_nonneg_left (show(1:Int)≤256 ^ k from K1 k) (Int.le_of_lt (K1 i));rw[Int.pow_add];omega
def Wc(N:Nat)(a n:Int):Bool:=decide (1≤n)&&decide (a+n≤N)
theorem Ey{B:List Int}{T:List Aa}{a n:Int}(ha:0≤a)(hB:B.length<4611686018427387904):Bj a n B T=some (Wc B.length a n,T,B):=by
 unfold Bj Wc;rw[cond_false]
 by_cases h1:n<1
 ·rw[show decide (n<(1:Int))=true from decide_eq_true (by omega),cond_true,cond_true];rw[show decide (1≤n)=false from decide_eq_false (by omega),Bool.false_and]
 ·rw[show decide (n<(1:Int))=false from decide_eq_false (by omega),cond_false,show decide (1≤n)=true from decide_eq_true (by omega),Bool.true_and]
  by_cases h2:(B.length:Int)<n
  ·rw[show decide ((B.length:Int)<n)=true from decide_eq_true (by omega),cond_true];rw[show decide (a+n≤(B.length:Int))=false from decide_eq_false (by omega)]
  ·rw[show decide ((B.length:Int)<n)=false from decide_eq_false (by omega),cond_false];rw[Gu (by omega) (by omega),B2 (by omega) (by omega)];rw[show decide (a≤(B.length:Int)-n)=decide (a+n≤(B.length:Int)) from decide_eq_decide.2 (by omega)]
theorem Nb{B:List Int}{T:List Aa}{a n:Int}(ha:0≤a)(ha':a<18446744073709551616)(hB:B.length<4611686018427387904):A4 a n B T=some (Wc B.length a n,T,B):=by
 unfold A4 Wc
 by_cases h1:n<1
 ·rw[show decide (n<(1:Int))=true from decide_eq_true (by omega),cond_true,cond_true,show decide (1≤n)=false from decide_eq_false (by omega),Bool.false_and]
 ·rw[show decide (n<(1:Int))=false from decide_eq_false (by omega),cond_false,show decide (1≤n)=true from decide_eq_true (by omega),Bool.true_and]
  by_cases h2:(B.length:Int)<n
  ·rw[show decide ((B.length:Int)<n)=true from decide_eq_true (by omega),cond_true,show decide (a+n≤(B.length:Int))=false from decide_eq_false (by omega)]
  ·rw[show decide ((B.length:Int)<n)=false from decide_eq_false (by omega),cond_false];obtain⟨N,rfl⟩:∃ N:Nat,n=N:=⟨n.toNat,by omega⟩
   have hl:Bh (Aw a N B T) (0:Int)=some (bif (List.range N).all (fun i=>decide (a+i<B.length)) then .inl () else .inr (false,T,B)):=by
    have key:∀ i:Nat,i<N→(bif decide (Ao (a+Ao (i:Int))<a) then true else decide (Ao (B.length:Int)≤Ao (a+Ao (i:Int)))) = !decide (a+(i:Int)<B.length):=fun i hi=>by
     rw[B2 (n:=(i:Int)) (by omega) (by omega),B2 (n:=(B.length:Int)) (by omega) (by omega)]
     by_cases h3:a+(i:Int)<18446744073709551616
     ·rw[B2 (by omega) h3,show decide (a+(i:Int)<a)=false from decide_eq_false (by omega),cond_false]
      by_cases h4:a+(i:Int)<B.length
      ·rw[decide_eq_true h4,decide_eq_false (by omega)];rfl
      ·rw[decide_eq_false h4,decide_eq_true (by omega)];rfl
     ·have e:Ao (a+(i:Int))=a+i-18446744073709551616:=by rw[To];omega
      rw[e,show decide (a+(i:Int)-18446744073709551616<a)=true from decide_eq_true (by omega),cond_true];rw[decide_eq_false (by omega)]
      rfl
    refine Q0 _ (fun i=>(i:Int)) (fun i=>decide (a+(i:Int)<B.length)) _ _ N (fun i hi hp=>?_) (fun i hi hp=>?_) ?_
    ·unfold Aw;rw[Dg hi,cond_true,key i hi];rw[hp,Bool.not_true,cond_false,w1 (by omega)]
    ·unfold Aw;rw[Dg hi,cond_true,key i hi];rw[hp,Bool.not_false,cond_true]
    ·unfold Aw;rw[Fz,cond_false]
   rw[hl,Option.bind_some]
   have hall:(List.range N).all (fun i=>decide (a+(i:Int)<B.length))=decide (a+(N:Int)≤B.length):=by
    rw[Bool.eq_iff_iff,Qp,decide_eq_true_iff]
    constructor
    ·intro h;have:=h (N-1) (by omega);simp only[decide_eq_true_iff]at this;omega
    ·intro h i hi;simp only[decide_eq_true_iff];omega
   rw[hall]
   cases decide (a+(N:Int)≤B.length)<;>rfl
theorem Vw{v b:Int}{i:Nat}(h0:0≤v)(h1:v<256 ^ i)(hb:0≤b)(hb':b<256)(hi:i<8):Fx .or .u64 v (Rl .u64 (Ao b) (Bg (8*(i:Int))))=v+256 ^ i*b:=by
 have e1:(256:Int) ^ i=((2 ^ (8*i):Nat):Int):=by rw[Nat.pow_mul];exact(Int.natCast_pow 256 i).symm
 obtain⟨V,rfl⟩:∃ V:Nat,v=V:=⟨v.toNat,by omega⟩;obtain⟨C,rfl⟩:∃ C:Nat,b=C:=⟨b.toNat,by omega⟩;rw[e1]at h1 ⊢;have h1:V<2 ^ (8*i):=Int.ofNat_lt.1 h1;have hC:C<256:=Int.ofNat_lt.1 hb'
 have hp:2 ^ (8*i)*256≤2 ^ 64:=by
  have:2 ^ (8*i)*2 ^ 8=2 ^ (8*i+8):=by rw[Nat.pow_add]
  have h2:(2:Nat) ^ (8*i+8)≤2 ^ 64:=Nat.pow_le_pow_right (by decide) (by omega);omega
 have hlt:V+C*2 ^ (8*i)<2 ^ 64:=by
  have:C*2 ^ (8*i)≤255*2 ^ (8*i):=Nat.mul_le_mul_right _ (by omega);omega
 rw[Gu (by omega) (by omega),B2 (by omega) (by omega)]
 have e2:Rl .u64 (C:Int) (8*(i:Int))=((C*2 ^ (8*i):Nat):Int):=by
  unfold Rl
  have:(8*(i:Int)).toNat=8*i:=by omega
  rw[this,show min (8*i) IntKind.u64.bits=8*i by simp[IntKind.bits];omega]
  have e3:(C:Int)*2 ^ (8*i)=((C*2 ^ (8*i):Nat):Int):=by rw[Int.natCast_mul,Int.natCast_pow];rfl
  rw[e3];exact On .u64 rfl (by simp[IntKind.bits];omega)
 rw[Vv .u64 rfl (8*i) h1 (by simpa [IntKind.bits] using hlt) e2];rw[Int.natCast_add,Int.natCast_mul,Int.mul_comm]
theorem Qb{B:List Int}(hB:E5 B)(hL:B.length<4611686018427387904){s:Nat}(hs:s≤8):∀(k i cur:Nat) (v:Int) (t:List Aa),i+k=s→cur+k≤B.length→0≤v→v<256 ^ i→t.length+k≤room→
  Bh (Bq (s:Int) B) ((cur:Int),v,(i:Int),t)=some (v+256 ^ i*Nh (D9 B cur k),t++Lf false cur (D9 B cur k))
 | 0,i,cur,v,t,hi,hc,h0,h1,hr=>by
  obtain rfl:i=s:=by omega
  refine Ay ?_;unfold Bq;simp only;rw[Fz,cond_false,I7];simp[Nh,Lf]
 | k+1,i,cur,v,t,hi,hc,h0,h1,hr=>by
  obtain⟨b0,b1⟩:=P0 hB cur
  have step:Bq (s:Int) B ((cur:Int),v,(i:Int),t)=some (.next (((cur+1:Nat):Int),v+256 ^ i*B.getD cur 0,((i+1:Nat):Int),t++[⟨false,(cur:Int),B.getD cur 0⟩])):=by
   unfold Bq;simp only;rw[Dg (by omega),cond_true,Ae (Mw (by omega)),Ae (by simp;omega),Ae (by rw[Gu (by omega) (by omega)];omega),Bk,Vw h0 h1 b0 b1 (by omega),w1 (by omega),B2 (by omega) (by omega)]
   rfl
  rw[Bx step,Qb hB hL hs k (i+1) (cur+1) _ _ (by omega) (by omega) (by have:=Int.mul_nonneg (Int.le_of_lt (K1 i)) b0;omega) (by
   rw[Int.pow_succ];have:256 ^ i*B.getD cur 0≤256 ^ i*255:=Int.mul_le_mul_of_nonneg_left (by omega) (Int.le_of_lt (K1 i))
   omega) (by simp;omega),Mj (by omega)]
  simp only[Nh,Lf,Int.pow_succ,List.append_assoc,List.singleton_append];rw[Int.mul_add,Int.add_assoc,Int.mul_assoc]
theorem Ra{B:List Int}{T:List Aa}(hB:E5 B)(hL:B.length<4611686018427387904){s cur:Nat}(hs:s≤8)(hc:cur+s≤B.length)(hr:T.length+s≤room) :
  Ci (cur:Int) (s:Int) B T=some (Nh (D9 B cur s),T++Lf false cur (D9 B cur s),B):=by
 unfold Ci;have:=Qb hB hL hs s 0 cur 0 T (by omega) hc (by decide) (by decide) hr;rw[show((0:Nat):Int)=0 from rfl]at this;rw[this]
 simp
theorem X5{v:Int}:Tj .u64 v (8:Int)=v / 256:=by
 unfold Tj
 have:min (8:Int).toNat IntKind.u64.bits=8:=by decide
 rw[this,Sq]
 rfl
theorem Qh{s:Nat}(hs:s≤8):∀(k i cur:Nat) (v:Int) (t:List Aa) (B:List Int),i+k=s→cur+k≤B.length→B.length<4611686018427387904→t.length+k≤room→
  Bh (Bf (s:Int)) ((cur:Int),v,(i:Int),t,B)=some (t++Lf true cur (J9 k v),Gj B cur (J9 k v))
 | 0,i,cur,v,t,B,hi,hc,hL,hr=>by
  obtain rfl:i=s:=by omega
  refine Ay ?_;unfold Bf;simp only;rw[Fz,cond_false];simp[J9,Lf,Gj]
 | k+1,i,cur,v,t,B,hi,hc,hL,hr=>by
  have step:Bf (s:Int) ((cur:Int),v,(i:Int),t,B)=some (.next (((cur+1:Nat):Int),v / 256,((i+1:Nat):Int),t++[⟨true,(cur:Int),v % 256⟩],B.set cur (v % 256))):=by
   unfold Bf;simp only;rw[Dg (by omega),cond_true,Ae (Mw (by omega)),Ae (by simp;omega),Bk,X5,Qj,w1 (by omega),B2 (by omega) (by omega)]
   rfl
  rw[Bx step,Qh hs k (i+1) (cur+1) _ _ _ (by omega) (by simp;omega) (by simpa using hL) (by simp;omega)];simp[J9,Lf,Gj]
theorem Pb{B:List Int}{T:List Aa}{v:Int}(hL:B.length<4611686018427387904){s cur:Nat}(hs:s≤8)(hc:cur+s≤B.length)(hr:T.length+s≤room) :
  Ca (cur:Int) (s:Int) v B T=some (T++Lf true cur (J9 s v),Gj B cur (J9 s v)):=by
 unfold Ca;have:=Qh hs s 0 cur v T B (by omega) hc hL hr;rw[show((0:Nat):Int)=0 from rfl]at this;rw[this]
 rfl
theorem Pu{a i s k cur:Nat}(hs:s≤8)(hi:i≤16)(hk:k<s)(hc:cur=a+i*s)(hb:cur+s<4611686018427387904) :
  Ao ((a:Int)+Ao (Bg (Bg ((i:Int)*(s:Int))+(k:Int))))=((cur+k:Nat):Int):=by
 have h1:(i:Int)*(s:Int)=((i*s:Nat):Int):=(Int.natCast_mul i s).symm;have h2:i*s≤16*8:=Nat.mul_le_mul hi hs;rw[h1,Gu (n:=((i*s:Nat):Int)) (by omega) (by omega),Gu (by omega) (by omega),B2 (n:=((i*s:Nat):Int)+k) (by omega) (by omega),B2 (by omega) (by omega)];subst hc;rw[Int.natCast_add,Int.natCast_add];omega
theorem Vd{i:Nat}(h:i<4611686018427387904):Bg ((i:Int)-1)=(i:Int)-1:=Gu (by omega) (by omega)
theorem Qf{B:List Int}(hB:E5 B)(hL:B.length<4611686018427387904){a p2:Int}{i:Int}{x:Bool×List Aa×List Int}(hx:x.2.2=B){s cur:Nat}(hs:s≤8)(hc:cur+s≤B.length)
  (ha:∀ k:Nat,k<s→Ao (a+Ao (Bg (Bg (i*Bg (Int.tdiv p2 8))+(k:Int))))=((cur+k:Nat):Int)):∀(m:Nat) (v:Int),m≤s→0≤v→v<256 ^ (s-m)→
  Bh (A1 a p2 i x) (v,(m:Int)-1)=some (v*256 ^ m+Nh (D9 B cur m))
 | 0,v,hm,h0,h1=>by
  refine Ay ?_;unfold A1;simp only;rw[show decide ((0:Int)≤((0:Nat):Int)-1)=false by decide,cond_false,I7];simp[Nh]
 | m+1,v,hm,h0,h1=>by
  obtain⟨b0,b1⟩:=P0 hB (cur+m)
  have hv:v*256+B.getD (cur+m) 0<256 ^ (s-m):=by
   have e:s-m=(s-(m+1))+1:=by omega
   rw[e,Int.pow_succ];omega
  have hp:(256:Int) ^ (s-m)≤18446744073709551616:=by
   have:=Rf (i:=s-m) (j:=8) (by omega);rwa[show(256:Int) ^ 8=18446744073709551616 by decide]at this
  have step:A1 a p2 i x (v,((m+1:Nat):Int)-1)=some (.next (v*256+B.getD (cur+m) 0,(m:Int)-1)):=by
   unfold A1;simp only;rw[show(((m+1:Nat):Int)-1)=(m:Int) by omega,show decide ((0:Int)≤(m:Int))=true from decide_eq_true (by omega),cond_true,ha m (by omega),hx,Ae (Mw (by omega)),Bk,Vd (by omega)];rw[B2 (n:=v*256) (by omega) (by omega),B2 (n:=B.getD (cur+m) 0) (by omega) (by omega),B2 (by omega) (by omega)]
  rw[Bx step,Qf hB hL hx hs hc ha m _ (by omega) (by omega) hv,Rm (by omega),Ud,Il (by omega)]
  congr 1
  simp only[Nh,Int.pow_succ,Int.mul_zero,Int.add_zero];rw[Int.add_mul,Int.mul_assoc,Int.mul_comm 256 (256 ^ m),Int.mul_comm (B.getD (cur+m) 0)]
  generalize v*(256 ^ m*256)=x1
  generalize 256 ^ m*B.getD (cur+m) 0=x2
  omega
theorem Qe{B:List Int}(hL:B.length<4611686018427387904){a p2:Int}{i:Int}{x:Bool×List Aa×List Int}(hx:x.2.2=B){s cur:Nat}(hs:s≤8)(hw:Bg (Int.tdiv p2 8)=(s:Int))(hc:cur+s≤B.length)
  (ha:∀ k:Nat,k<s→Ao (a+Ao (Bg (Bg (i*Bg (Int.tdiv p2 8))+(k:Int))))=((cur+k:Nat):Int)):∀(m k:Nat) (t:List Aa),k+m=s→t.length+m≤room→
  Bh (A2 a p2 i x) ((k:Int),t)=some (t++Lf false (cur+k) (D9 B (cur+k) m))
 | 0,k,t,hk,hr=>by
  obtain rfl:k=s:=by omega
  refine Ay ?_;unfold A2;simp only;rw[hw,Fz,cond_false,I7];simp[Lf]
 | m+1,k,t,hk,hr=>by
  have step:A2 a p2 i x ((k:Int),t)=some (.next (((k+1:Nat):Int),t++[⟨false,((cur+k:Nat):Int),B.getD (cur+k) 0⟩])):=by
   unfold A2;simp only;rw[ha k (by omega),hx,hw,Dg (by omega),cond_true,Ae (Mw (by omega)),Ae (by simp;omega),Bk,w1 (by omega)]
  rw[Bx step,Qe hL hx hs hw hc ha m (k+1) _ (by omega) (by simp;omega),Mj (by omega)];simp[Lf,Nat.add_assoc]
theorem Qi{a p2:Int}{i:Int}{s cur:Nat}(hs:s≤8)(hw:Bg (Int.tdiv p2 8)=(s:Int))
  (ha:∀ k:Nat,k<s→Ao (a+Ao (Bg (Bg (i*Bg (Int.tdiv p2 8))+(k:Int))))=((cur+k:Nat):Int)):∀(m k:Nat) (v:Int) (t:List Aa) (B:List Int),k+m=s→cur+s≤B.length→B.length<4611686018427387904→0≤v→v<18446744073709551616→t.length+m≤room→
  Bh (Ax a p2 i) (v,(k:Int),t,B)=some (t++Lf true (cur+k) (J9 m v),Gj B (cur+k) (J9 m v))
 | 0,k,v,t,B,hk,hc,hL,h0,h1,hr=>by
  obtain rfl:k=s:=by omega
  refine Ay ?_;unfold Ax;simp only;rw[hw,Fz,cond_false];simp[Lf,J9,Gj]
 | m+1,k,v,t,B,hk,hc,hL,h0,h1,hr=>by
  have e1:Nf (Int.tmod v 256)=v % 256:=by rw[Int.tmod_eq_emod_of_nonneg h0,Qj];omega
  have e2:Ao (Int.tdiv v 256)=v / 256:=by rw[Int.tdiv_eq_ediv_of_nonneg h0,B2 (by omega) (by omega)]
  have step:Ax a p2 i (v,(k:Int),t,B)=some (.next (v / 256,((k+1:Nat):Int),t++[⟨true,((cur+k:Nat):Int),v % 256⟩],B.set (cur+k) (v % 256))):=by
   unfold Ax;simp only
   have e3:(B.set (cur+k) (v % 256)).getD (cur+k) 0=v % 256:=by simp[List.getD,show cur+k<B.length by omega]
   rw[ha k (by omega),hw,Dg (by omega),cond_true,Bk,e1,e2,e3,Ae (Mw (by omega)),Ae (Mw (by simp;omega)),Ae (by simp;omega),w1 (by omega)]
  rw[Bx step,Qi hs hw ha m (k+1) _ _ _ (by omega) (by simp;omega) (by simpa using hL) (by omega) (by omega) (by simp;omega)];simp[J9,Lf,Gj,Nat.add_assoc]
def Hz(B:List Int)(s:Nat):Nat→Nat→List Int×Bool×List Aa
 | 0,_=>([],true,[])
 | n+1,cur=>if cur+s≤B.length then(Nh (D9 B cur s)::(Hz B s n (cur+s)).1,(Hz B s n (cur+s)).2.1,Lf false cur (D9 B cur s)++(Hz B s n (cur+s)).2.2) else([],false,[])
def He(s:Nat):List Int→Nat→List Int→Bool×List Aa×List Int
 | [],_,B=>(true,[],B)
 | v::l,cur,B=>if cur+s≤B.length then((He s l (cur+s) (Gj B cur (J9 s v))).1,Lf true cur (J9 s v)++(He s l (cur+s) (Gj B cur (J9 s v))).2.1,(He s l (cur+s) (Gj B cur (J9 s v))).2.2) else(false,[],B)
theorem Un{B:List Int}{s:Nat}(n cur:Nat):(Hz B s n cur).2.2.length≤n*s:=by
 induction n generalizing cur with
 | zero=>simp[Hz]
 | succ n ih=>
  unfold Hz
  split
  ·have:=ih (cur+s);simp[G9,Il ‹_›,Nat.succ_mul];omega
  ·simp
theorem Ut{s:Nat}(l:List Int)(cur:Nat)(B:List Int):(He s l cur B).2.1.length≤l.length*s∧(He s l cur B).2.2.length=B.length:=by
 induction l generalizing cur B with
 | nil=>simp[He]
 | cons v l ih=>
  unfold He
  split
  ·have:=ih (cur+s) (Gj B cur (J9 s v));rw[Gk]at this;simp[G9,Mr,Nat.succ_mul];omega
  ·simp
theorem Vy{s:Nat}(l:List Int)(cur:Nat){B:List Int}(hB:E5 B):E5 (He s l cur B).2.2:=by
 induction l generalizing cur B with
 | nil=>simpa [He] using hB
 | cons v l ih=>
  unfold He
  split
  ·exact ih _ (Uk hB (Vl _ _))
  ·exact hB
def Ro(bits:Int):Bool:=bits==8 || bits==16 || bits==32 || bits==64
def Gf(bits n:Int):Bool:=Ro bits&&decide (0≤n)&&decide (n≤16)
theorem wdB_cases{bits:Int}(h:Ro bits=true):bits=8∨bits=16∨bits=32∨bits=64:=by
 simp only[Ro,Bool.or_eq_true,beq_iff_eq]at h;omega
theorem L9(bits:Int):Cs bits=some (bif Ro bits then bits / 8 else 0):=by
 by_cases h:Ro bits=true
 ·rw[h,cond_true];rcases wdB_cases h with rfl|rfl|rfl|rfl<;>decide
 ·have h':Ro bits=false:=by simpa using h
  rw[h',cond_false];simp only[Ro,Bool.or_eq_false_iff]at h';obtain⟨⟨⟨h1,h2⟩,h3⟩,h4⟩:=h';unfold Cs;rw[h1,cond_false,h2,cond_false,h3,cond_false,h4]
  rfl
theorem U8(bits n:Int):Bt bits n=some (Gf bits n):=by
 unfold Bt Gf Ro
 generalize (bits==(8:Int))=b1
 generalize (bits==(16:Int))=b2
 generalize (bits==(32:Int))=b3
 generalize (bits==(64:Int))=b4
 generalize decide ((0:Int)≤n)=b5
 generalize decide (n≤(16:Int))=b6
 cases b1<;>cases b2<;>cases b3<;>cases b4<;>cases b5<;>cases b6<;>rfl
theorem Rp{bits:Int}(h:Ro bits=true):∃ s:Nat,bits / 8=(s:Int)∧1≤s∧s≤8∧bits=8*(s:Int)∧Bg (Int.tdiv bits 8)=(s:Int):=by
 rcases wdB_cases h with rfl|rfl|rfl|rfl
 ·exact⟨1,by decide,by decide,by decide,by decide,by decide⟩
 ·exact⟨2,by decide,by decide,by decide,by decide,by decide⟩
 ·exact⟨4,by decide,by decide,by decide,by decide,by decide⟩
 ·exact⟨8,by decide,by decide,by decide,by decide,by decide⟩
theorem Im{N s cur:Nat}(hs:1≤s):Wc N (cur:Int) (s:Int)=decide (cur+s≤N):=by
 unfold Wc;rw[show decide (1≤(s:Int))=true from decide_eq_true (by omega),Bool.true_and];exact decide_eq_decide.2 (by omega)
theorem Td{B:List Int}(hB:E5 B)(hL:B.length<4611686018427387904){s:Nat}(hs:s≤8)(hs1:1≤s){N:Nat}(hN:N≤16):∀(k i cur:Nat) (done:List Int) (t:List Aa),i+k=N→done.length=i→t.length+k*8≤room→
  Bh (Bs (N:Int) (s:Int)) ((cur:Int),(i:Int),done++List.replicate k 0,t,B) =
   some (if(Hz B s k cur).2.1=true then .inl (done++(Hz B s k cur).1,t++(Hz B s k cur).2.2,B) else .inr (t++(Hz B s k cur).2.2,B))
 | 0,i,cur,done,t,hi,hd,hr=>by
  obtain rfl:i=N:=by omega
  refine Ay ?_;unfold Bs;simp only;rw[List.length_replicate,Bk,Fz,cond_false];simp[Hz]
 | k+1,i,cur,done,t,hi,hd,hr=>by
  by_cases hc:cur+s≤B.length
  ·have step:Bs (N:Int) (s:Int) ((cur:Int),(i:Int),done++List.replicate (k+1) 0,t,B)=some (.next (((cur+s:Nat):Int),((i+1:Nat):Int),(done++[Nh (D9 B cur s)])++List.replicate k 0,t++Lf false cur (D9 B cur s),B)):=by
    unfold Bs;simp only;rw[List.length_replicate,Bk,Dg (by omega),cond_true,Ey (by omega) hL,Option.bind_some,Ae rfl,Im hs1];simp only;rw[show decide (cur+s≤B.length)=true from decide_eq_true (by omega),Bool.not_true,cond_false,Ra hB hL hs hc (by omega),Option.bind_some,Ae rfl,Ae (Mw (by simp;omega)),w1 (by omega),B2 (n:=(s:Int)) (by omega) (by omega),B2 (by omega) (by omega),Bk]
    have e:(done++List.replicate (k+1) (0:Int)).set i (Nh (D9 B cur s))=(done++[Nh (D9 B cur s)])++List.replicate k 0:=by
     rw[List.replicate_succ,List.set_append_right _ _ (by omega),hd,Nat.sub_self,List.set_cons_zero,List.append_assoc];rfl
    rw[e]
    simp
   rw[Bx step,Td hB hL hs hs1 hN k (i+1) (cur+s) _ _ (by omega) (by simp[hd]) (by simp[G9,Il hc];omega)];rw[Hz,if_pos hc];simp only[List.append_assoc,List.singleton_append]
  ·rw[Hz,if_neg hc];refine Ay ?_;unfold Bs;simp only;rw[List.length_replicate,Bk,Dg (by omega),cond_true,Ey (by omega) hL,Option.bind_some,Ae rfl,Im hs1];simp only;rw[show decide (cur+s≤B.length)=false from decide_eq_false (by omega),Bool.not_false,cond_true]
   simp
def RD(a bits n:Int)(B:List Int)(T:List Aa):List Int×Int×List Aa×List Int:=
 if Gf bits n=true then(if(Hz B (bits / 8).toNat n.toNat a.toNat).2.1=true then((Hz B (bits / 8).toNat n.toNat a.toNat).1,0,T++(Hz B (bits / 8).toNat n.toNat a.toNat).2.2,B) else([],8,T++(Hz B (bits / 8).toNat n.toNat a.toNat).2.2,B)) else([],1,T,B)
theorem P6{bits n:Int}:(bif bif (bif Ro bits then bits / 8 else 0)==0 then true else decide (n<0) then true else decide (16<n)) = !Gf bits n:=by
 unfold Gf
 cases h:Ro bits with
 | false=>rfl
 | true=>
  obtain⟨s,h1,h2,h3,_⟩:=Rp h;rw[cond_true,h1,show((s:Int)==0)=false by simp;omega,cond_false,Bool.true_and]
  by_cases h4:n<0
  ·rw[decide_eq_true h4,cond_true,decide_eq_false (show ¬ (0≤n) by omega)];rfl
  ·rw[decide_eq_false h4,cond_false,decide_eq_true (show 0≤n by omega),Bool.true_and]
   by_cases h5:16<n
   ·rw[decide_eq_true h5,decide_eq_false (show ¬ n≤16 by omega)];rfl
   ·rw[decide_eq_false h5,decide_eq_true (show n≤16 by omega)];rfl
theorem Pa{a bits n:Int}{B:List Int}{T:List Aa}(ha:0≤a)(hB:E5 B)(hL:B.length<4611686018427387904)(hr:T.length+128≤room):B9 a bits n B T=some (RD a bits n B T):=by
 unfold B9 RD;rw[L9,Option.bind_some,P6]
 cases hm:Gf bits n with
 | false=>simp[E7]
 | true=>
  simp only[Gf,Bool.and_eq_true,decide_eq_true_iff]at hm;obtain⟨⟨hw,h0⟩,h1⟩:=hm;obtain⟨s,h2,h3,h4,h5,h6⟩:=Rp hw;obtain⟨N,rfl⟩:∃ N:Nat,n=N:=⟨n.toNat,by omega⟩;obtain⟨A,rfl⟩:∃ A:Nat,a=A:=⟨a.toNat,by omega⟩;rw[Bool.not_true,cond_false,hw,cond_true,h2,Ae ⟨h0,Int.le_refl _,by have:room=1099511627776:=rfl;omega⟩,Bk,Bk,Bk];have:=Td hB hL h4 h3 (N:=N) (by omega) N 0 A [] T (by omega) rfl (by omega);rw[List.nil_append,show((0:Nat):Int)=0 from rfl]at this;rw[this]
  by_cases hk:(Hz B s N A).2.1=true
  ·rw[if_pos hk,if_pos hk];rfl
  ·rw[if_neg hk,if_neg hk,Option.bind_some]
   show(E7 (some (.next _)) _).bind _=_
   unfold E7;rw[Option.bind_some];simp only;rw[Ay (x:=(([]:List Int),(8:Int),T++(Hz B s N A).2.2,B)) rfl]
   rfl
theorem Tn{s:Nat}(hs:s≤8)(hs1:1≤s){L:List Int}(hN:L.length≤16):∀(k i cur:Nat) (t:List Aa) (B:List Int),i+k=L.length→B.length<4611686018427387904→t.length+k*8≤room→
  Bh (Bn L (s:Int)) ((cur:Int),(i:Int),t,B) =
   some (if(He s (L.drop i) cur B).1=true then .inl (t++(He s (L.drop i) cur B).2.1,(He s (L.drop i) cur B).2.2) else .inr (t++(He s (L.drop i) cur B).2.1,(He s (L.drop i) cur B).2.2))
 | 0,i,cur,t,B,hi,hL,hr=>by
  obtain rfl:i=L.length:=by omega
  refine Ay ?_;unfold Bn;simp only;rw[Fz,cond_false,List.drop_length];simp[He]
 | k+1,i,cur,t,B,hi,hL,hr=>by
  have hd:L.drop i=L.getD i 0::L.drop (i+1):=by rw[List.drop_eq_getElem_cons (by omega),C6 _ _ _ (by omega)]
  by_cases hc:cur+s≤B.length
  ·have step:Bn L (s:Int) ((cur:Int),(i:Int),t,B)=some (.next (((cur+s:Nat):Int),((i+1:Nat):Int),t++Lf true cur (J9 s (L.getD i 0)),Gj B cur (J9 s (L.getD i 0)))):=by
    unfold Bn;simp only;rw[Dg (by omega),cond_true,Ae (Mw (by omega)),Ey (by omega) hL,Option.bind_some,Ae rfl,Im hs1];simp only;rw[show decide (cur+s≤B.length)=true from decide_eq_true (by omega),Bool.not_true,cond_false,Bk,Pb hL hs hc (by omega),Option.bind_some,Ae (by rw[Gk]),w1 (by omega),B2 (n:=(s:Int)) (by omega) (by omega),B2 (by omega) (by omega)]
    simp
   rw[Bx step,Tn hs hs1 hN k (i+1) (cur+s) _ _ (by omega) (by rw[Gk];exact hL) (by simp[G9,Mr];omega)];rw[hd,He,if_pos hc];simp only[List.append_assoc]
  ·rw[hd,He,if_neg hc];refine Ay ?_;unfold Bn;simp only;rw[Dg (by omega),cond_true,Ae (Mw (by omega)),Ey (by omega) hL,Option.bind_some,Ae rfl,Im hs1];simp only;rw[show decide (cur+s≤B.length)=false from decide_eq_false (by omega),Bool.not_false,cond_true]
   simp
def WR(a bits:Int)(L:List Int)(B:List Int)(T:List Aa):Int×List Aa×List Int:=
 if Gf bits L.length=true then(if(He (bits / 8).toNat L a.toNat B).1=true then 0 else 8,T++(He (bits / 8).toNat L a.toNat B).2.1,(He (bits / 8).toNat L a.toNat B).2.2) else(1,T,B)
theorem Sz{bits:Int}{n:Nat}:(bif (bif Ro bits then bits / 8 else 0)==0 then true else decide (16<(n:Int))) = !Gf bits n:=by
 rw[← P6,show decide ((n:Int)<0)=false from decide_eq_false (by omega)]
 cases(bif Ro bits then bits / 8 else 0)==0<;>rfl
theorem P5{a bits:Int}{L B:List Int}{T:List Aa}(ha:0≤a)(hL:B.length<4611686018427387904)(hr:T.length+128≤room):Cg a bits L B T=some (WR a bits L B T):=by
 unfold Cg WR;rw[L9,Option.bind_some,Sz]
 cases hm:Gf bits L.length with
 | false=>simp[E7]
 | true=>
  simp only[Gf,Bool.and_eq_true,decide_eq_true_iff]at hm;obtain⟨⟨hw,h0⟩,h1⟩:=hm;obtain⟨s,h2,h3,h4,h5,h6⟩:=Rp hw;obtain⟨A,rfl⟩:∃ A:Nat,a=A:=⟨a.toNat,by omega⟩;rw[Bool.not_true,cond_false,hw,cond_true,h2,Bk,Bk];have:=Tn h4 h3 (L:=L) (by omega) L.length 0 A T B (by omega) hL (by omega);rw[List.drop_zero,show((0:Nat):Int)=0 from rfl]at this;rw[this]
  by_cases hk:(He s L A B).1=true
  ·rw[if_pos hk,if_pos rfl,if_pos hk];rfl
  ·rw[if_neg hk,if_pos rfl,if_neg hk,Option.bind_some]
   show(E7 (some (.next _)) _).bind _=_
   unfold E7;rw[Option.bind_some];simp only;rw[Ay (x:=((8:Int),T++(He s L A B).2.1,(He s L A B).2.2)) rfl]
   rfl
theorem Na{B:List Int}{T:List Aa}{A i s:Nat}(hs:s≤8)(hs1:1≤s)(hi:i≤16)(hA:A+i*s<18446744073709551616)(hL:B.length<4611686018427387904) :
  A6 (A:Int) (s:Int) (i:Int) B T=some (decide (A+i*s+s≤B.length),T,B):=by
 have h1:(i:Int)*(s:Int)=((i*s:Nat):Int):=(Int.natCast_mul i s).symm;have h2:i*s≤16*8:=Nat.mul_le_mul hi hs
 have e:Ao ((A:Int)+Ao (Bg ((i:Int)*(s:Int))))=((A+i*s:Nat):Int):=by
  rw[h1,Gu (by omega) (by omega),B2 (n:=((i*s:Nat):Int)) (by omega) (by omega),B2 (by omega) (by omega)];rw[Int.natCast_add]
 unfold A6;rw[e,show decide ((A:Int)≤((A+i*s:Nat):Int))=true from decide_eq_true (by omega),cond_true,Nb (by omega) (by omega) hL,Option.bind_some,Ae rfl,Im hs1]
theorem Tg{B:List Int}(hB:E5 B)(hL:B.length<4611686018427387904){p2:Int}{s:Nat}(hs:s≤8)(hs1:1≤s)(hw:Bg (Int.tdiv p2 8)=(s:Int)){N A:Nat}(hN:N≤16)(hA:A<18446744073709551616):∀(k i:Nat) (done:List Int) (t:List Aa),i+k=N→done.length=i→(i=0∨A+i*s≤B.length)→t.length+k*8≤room→
  Bh (As (A:Int) p2 (N:Int)) (done,(i:Int),t,B) =
   some (if(Hz B s k (A+i*s)).2.1=true then .inl (done++(Hz B s k (A+i*s)).1,t++(Hz B s k (A+i*s)).2.2,B) else .inr ([],8,t++(Hz B s k (A+i*s)).2.2,B))
 | 0,i,done,t,hi,hd,hv,hr=>by
  obtain rfl:i=N:=by omega
  refine Ay ?_;unfold As;simp only;rw[Fz,cond_false];simp[Hz]
 | k+1,i,done,t,hi,hd,hv,hr=>by
  have hno:A+i*s<18446744073709551616:=by
   rcases hv with rfl|h
   ·omega
   ·omega
  by_cases hc:A+i*s+s≤B.length
  ·have ha:∀ k:Nat,k<s→Ao ((A:Int)+Ao (Bg (Bg ((i:Int)*Bg (Int.tdiv p2 8))+(k:Int))))=((A+i*s+k:Nat):Int):=fun k hk=>by rw[hw];exact Pu hs (by omega) hk rfl (by omega)
   have step:As (A:Int) p2 (N:Int) (done,(i:Int),t,B)=some (.next (done++[Nh (D9 B (A+i*s) s)],((i+1:Nat):Int),t++Lf false (A+i*s) (D9 B (A+i*s) s),B)):=by
    unfold As;simp only;rw[Dg (by omega),cond_true,hw,Na hs hs1 (by omega) hno hL,Option.bind_some,Ae rfl];simp only;rw[show decide (A+i*s+s≤B.length)=true from decide_eq_true (by omega),Bool.not_true,cond_false];have e1:=Qf hB hL (x:=(true,t,B)) rfl hs hc ha s 0 (Nat.le_refl _) (by decide) (K1 _);rw[Vd (by omega),e1,Option.bind_some];have e2:=Qe hL (x:=(true,t,B)) rfl hs hw hc ha s 0 t (by omega) (by omega);rw[show((0:Nat):Int)=0 from rfl]at e2;rw[e2,Option.bind_some,Ae (by have:room=1099511627776:=rfl;simp;omega),w1 (by omega)]
    simp
   rw[Bx step,Tg hB hL hs hs1 hw hN hA k (i+1) _ _ (by omega) (by simp[hd]) (.inr (by rw[Nat.succ_mul];omega)) (by simp[G9,Il hc];omega)];rw[show A+(i+1)*s=A+i*s+s by rw[Nat.succ_mul];omega]
   conv=>rhs;rw[Hz,if_pos hc]
   simp only[List.append_assoc,List.singleton_append]
  ·rw[Hz,if_neg hc];refine Ay ?_;unfold As;simp only;rw[Dg (by omega),cond_true,hw,Na hs hs1 (by omega) hno hL,Option.bind_some,Ae rfl];simp only;rw[show decide (A+i*s+s≤B.length)=false from decide_eq_false (by omega),Bool.not_false,cond_true]
   simp
theorem Vx{a bits n:Int}{B:List Int}{T:List Aa}(ha:0≤a)(ha':a<18446744073709551616)(hB:E5 B)(hL:B.length<4611686018427387904)(hr:T.length+128≤room):Bi a bits n B T=some (RD a bits n B T):=by
 unfold Bi RD;rw[U8,Option.bind_some]
 cases hm:Gf bits n with
 | false=>simp
 | true=>
  simp only[Gf,Bool.and_eq_true,decide_eq_true_iff]at hm;obtain⟨⟨hw,h0⟩,h1⟩:=hm;obtain⟨s,h2,h3,h4,h5,h6⟩:=Rp hw;obtain⟨N,rfl⟩:∃ N:Nat,n=N:=⟨n.toNat,by omega⟩;obtain⟨A,rfl⟩:∃ A:Nat,a=A:=⟨a.toNat,by omega⟩;rw[Bool.not_true,cond_false,h2,Bk,Bk,Bk];have:=Tg hB hL h4 h3 h6 (N:=N) (A:=A) (by omega) (by omega) N 0 [] T (by omega) rfl (.inl rfl) (by omega);rw[List.nil_append,show((0:Nat):Int)=0 from rfl,Nat.zero_mul,Nat.add_zero]at this;rw[this]
  by_cases hk:(Hz B s N A).2.1=true
  ·rw[if_pos hk,if_pos rfl,if_pos hk];rfl
  ·rw[if_neg hk,if_pos rfl,if_neg hk];rfl
theorem Ti{p2:Int}{s:Nat}(hs:s≤8)(hs1:1≤s)(hw:Bg (Int.tdiv p2 8)=(s:Int)){L:List Int}(hv64:∀ v∈L,0≤v∧v<18446744073709551616){A:Nat}(hN:L.length≤16)(hA:A<18446744073709551616):∀(k i:Nat) (t:List Aa) (B:List Int),i+k=L.length→B.length<4611686018427387904→(i=0∨A+i*s≤B.length)→t.length+k*8≤room→
  Bh (Ap (A:Int) p2 L) ((i:Int),t,B) =
   some (if(He s (L.drop i) (A+i*s) B).1=true then .inl (t++(He s (L.drop i) (A+i*s) B).2.1,(He s (L.drop i) (A+i*s) B).2.2) else .inr (8,t++(He s (L.drop i) (A+i*s) B).2.1,(He s (L.drop i) (A+i*s) B).2.2))
 | 0,i,t,B,hi,hL,hv,hr=>by
  obtain rfl:i=L.length:=by omega
  refine Ay ?_;unfold Ap;simp only;rw[Fz,cond_false,List.drop_length];simp[He]
 | k+1,i,t,B,hi,hL,hv,hr=>by
  have hd:L.drop i=L.getD i 0::L.drop (i+1):=by rw[List.drop_eq_getElem_cons (by omega),C6 _ _ _ (by omega)]
  have hno:A+i*s<18446744073709551616:=by
   rcases hv with rfl|h
   ·omega
   ·omega
  by_cases hc:A+i*s+s≤B.length
  ·have ha:∀ k:Nat,k<s→Ao ((A:Int)+Ao (Bg (Bg ((i:Int)*Bg (Int.tdiv p2 8))+(k:Int))))=((A+i*s+k:Nat):Int):=fun k hk=>by rw[hw];exact Pu hs (by omega) hk rfl (by omega)
   obtain⟨v0,v1⟩:=hv64 _ (Kg (d:=0) (show i<L.length by omega))
   have step:Ap (A:Int) p2 L ((i:Int),t,B)=some (.next (((i+1:Nat):Int),t++Lf true (A+i*s) (J9 s (L.getD i 0)),Gj B (A+i*s) (J9 s (L.getD i 0)))):=by
    unfold Ap;simp only;rw[Dg (by omega),cond_true,hw,Na hs hs1 (by omega) hno hL,Option.bind_some,Ae rfl];simp only;rw[show decide (A+i*s+s≤B.length)=true from decide_eq_true (by omega),Bool.not_true,cond_false,Ae (Mw (by omega)),Bk];have e2:=Qi hs hw ha s 0 (L.getD i 0) t B (by omega) hc hL v0 v1 (by omega);rw[show((0:Nat):Int)=0 from rfl]at e2;rw[e2,Option.bind_some,w1 (by omega)]
    simp
   rw[Bx step,Ti hs hs1 hw hv64 hN hA k (i+1) _ _ (by omega) (by rw[Gk];exact hL) (.inr (by rw[Gk,Nat.succ_mul];omega)) (by simp[G9,Mr];omega)];rw[show A+(i+1)*s=A+i*s+s by rw[Nat.succ_mul];omega,hd]
   conv=>rhs;rw[He,if_pos hc]
   simp only[List.append_assoc]
  ·rw[hd,He,if_neg hc];refine Ay ?_;unfold Ap;simp only;rw[Dg (by omega),cond_true,hw,Na hs hs1 (by omega) hno hL,Option.bind_some,Ae rfl];simp only;rw[show decide (A+i*s+s≤B.length)=false from decide_eq_false (by omega),Bool.not_false,cond_true]
   simp
theorem Um{a bits:Int}{L B:List Int}{T:List Aa}(ha:0≤a)(ha':a<18446744073709551616)(hv64:∀ v∈L,0≤v∧v<18446744073709551616)(hL:B.length<4611686018427387904)(hr:T.length+128≤room):Be a bits L B T=some (WR a bits L B T):=by
 unfold Be WR;rw[U8,Option.bind_some]
 cases hm:Gf bits L.length with
 | false=>simp
 | true=>
  simp only[Gf,Bool.and_eq_true,decide_eq_true_iff]at hm;obtain⟨⟨hw,h0⟩,h1⟩:=hm;obtain⟨s,h2,h3,h4,h5,h6⟩:=Rp hw;obtain⟨A,rfl⟩:∃ A:Nat,a=A:=⟨a.toNat,by omega⟩;rw[Bool.not_true,cond_false,h2,Bk,Bk];have:=Ti h4 h3 h6 hv64 (A:=A) (by omega) (by omega) L.length 0 T B (by omega) hL (.inl rfl) (by omega);rw[List.drop_zero,show((0:Nat):Int)=0 from rfl,Nat.zero_mul,Nat.add_zero]at this;rw[this]
  by_cases hk:(He s L A B).1=true
  ·rw[if_pos hk,if_pos rfl,if_pos hk];rfl
  ·rw[if_neg hk,if_pos rfl,if_neg hk];rfl
theorem D6:room=1099511627776:=rfl
theorem N8{b:List Int}(h:b.length≤4096):Df b=some ((true,⟨b,[]⟩),0):=by
 unfold Df A3;rw[decide_eq_false (by omega),cond_false,Ae (by rw[D6];omega)]
 rfl
theorem Q1{b:List Int}(h:4096<b.length):Df b=some ((false,default),4):=by
 unfold Df;rw[decide_eq_true (by omega),cond_true]
theorem P3{B:List Int}{T:List Aa}(h:B.length≤room):Ce B T=some (B,T,B):=by
 unfold Ce A3;rw[Ae h];rfl
theorem P4{B:List Int}{T:List Aa}(h:T.length≤room):Cf B T=some (T,T,B):=by
 unfold Cf A5;rw[Ae (by simpa using h)];rfl
theorem Ji{l:List Int}(h:l.length<4611686018427387904):B0 l l=some true:=by
 unfold B0;rw[show(((l.length:Int))!=(l.length:Int))=false by simp,cond_false]
 have:Bh (Bo l l) (0:Int)=some (.inl ()):=Kn _ (fun i:Nat=>(i:Int)) _ l.length (fun i hi=>by
  unfold Bo
  rw[Dg hi,cond_true,Ae (Mw hi),Ae (Mw hi),show((l.getD ((i:Int)).toNat 0)!=l.getD ((i:Int)).toNat 0)=false by simp,cond_false,w1 (by omega)]) (by
  unfold Bo
  rw[Fz,cond_false])
 rw[this];rfl
theorem My{l:List Int}(h:l.length<4611686018427387904):Cc l l=some true:=Ji h
theorem Ko{l:List Aa}(h:l.length<4611686018427387904):Bp l l=some true:=by
 unfold Bp;rw[show(((l.length:Int))!=(l.length:Int))=false by simp,cond_false]
 have:Bh (Ba l l) (0:Int)=some (.inl ()):=Kn _ (fun i:Nat=>(i:Int)) _ l.length (fun i hi=>by
  unfold Ba;rw[Dg hi,cond_true,Ae (Mw hi),Ae (Mw hi)];simp only[beq_self_eq_true,Bool.and_self,Bool.not_true,cond_false]
  rw[w1 (by omega)]) (by
  unfold Ba
  rw[Fz,cond_false])
 rw[this];rfl
theorem R0:WR 2 16 [258] [9,9,9,9] []=(0,[⟨true,2,2⟩,⟨true,3,1⟩],[9,9,2,1]):=by decide
theorem Qm:RD 0 32 1 [9,9,2,1] [⟨true,2,2⟩,⟨true,3,1⟩]=([16910601],0,[⟨true,2,2⟩,⟨true,3,1⟩,⟨false,0,9⟩,⟨false,1,9⟩,⟨false,2,2⟩,⟨false,3,1⟩],[9,9,2,1]):=by decide
theorem Qn:RD 1 32 1 [9,9,2,1] [⟨true,2,2⟩,⟨true,3,1⟩,⟨false,0,9⟩,⟨false,1,9⟩,⟨false,2,2⟩,⟨false,3,1⟩]=([],8,[⟨true,2,2⟩,⟨true,3,1⟩,⟨false,0,9⟩,⟨false,1,9⟩,⟨false,2,2⟩,⟨false,3,1⟩],[9,9,2,1]):=by decide
theorem Mc:E5 [9,9,2,1]:=by unfold E5;decide
theorem Q2:m_locksteplaw12_awake=some true:=by
 unfold m_locksteplaw12_awake;rw[N8 (by decide),Option.bind_some]
 dsimp only
 rw[cond_true,show((0:Int)!=0)=false by decide,cond_false,P5 (by decide) (by decide) (by decide),R0,Option.bind_some]
 dsimp only
 rw[Ae (by decide),Pa (by decide) Mc (by decide) (by decide),Qm,Option.bind_some]
 dsimp only
 rw[Ae (by decide),Pa (by decide) Mc (by decide) (by decide),Qn,Option.bind_some]
 dsimp only
 rw[Ae (by decide),P3 (by decide),Option.bind_some]
 dsimp only
 rw[Ae (by decide),Ae (by decide),Ae (by decide),Ae (by decide)];rw[P4 (by decide),Option.bind_some]
 dsimp only
 rw[Ae (by decide),Ey (by decide) (by decide),Option.bind_some]
 dsimp only
 rw[Ae (by decide),Ey (by decide) (by decide),Option.bind_some]
 dsimp only
 rw[Ae (by decide)]
 rfl
theorem Kp{bits n:Int}(h:Gf bits n=true):(bits / 8).toNat≤8∧n.toNat≤16:=by
 simp only[Gf,Bool.and_eq_true,decide_eq_true_iff]at h;obtain⟨⟨hw,h0⟩,h1⟩:=h;obtain⟨s,h2,h3,h4,_⟩:=Rp hw;omega
theorem Tx(a bits:Int)(L B:List Int)(T:List Aa):(WR a bits L B T).2.2.length=B.length∧(WR a bits L B T).2.1.length≤T.length+128∧(E5 B→E5 (WR a bits L B T).2.2):=by
 unfold WR
 split
 ·rename_i h
  obtain⟨h1,h2⟩:=Kp h;obtain⟨h3,h4⟩:=Ut (s:=(bits / 8).toNat) L a.toNat B;have h5:L.length*(bits / 8).toNat≤16*8:=Nat.mul_le_mul (by omega) h1;refine⟨h4,?_,fun hB=>Vy L _ hB⟩;rw[List.length_append];omega
 ·exact⟨rfl,by simp,id⟩
theorem Tw(a bits n:Int)(B:List Int)(T:List Aa):(RD a bits n B T).2.2.2=B∧(RD a bits n B T).2.2.1.length≤T.length+128:=by
 unfold RD
 split
 ·rename_i h
  obtain⟨h1,h2⟩:=Kp h;have h3:=Un (B:=B) (s:=(bits / 8).toNat) n.toNat a.toNat;have h5:n.toNat*(bits / 8).toNat≤16*8:=Nat.mul_le_mul (by omega) h1
  split<;>(refine⟨rfl,?_⟩;rw[List.length_append];omega)
 ·exact⟨rfl,by simp⟩
theorem Ve(a bits n:Int)(B:List Int)(T:List Aa):(RD a bits n B T).1.length<4611686018427387904:=by
 have key:∀ s k cur,(Hz B s k cur).1.length≤k:=fun s k=>by
  induction k with
  | zero=>intro cur;simp[Hz]
  | succ k ih=>
   intro cur;unfold Hz
   split
   ·have:=ih (cur+s);simp;omega
   ·simp
 unfold RD
 split
 ·rename_i h
  obtain⟨h1,h2⟩:=Kp h;have:=key (bits / 8).toNat n.toNat a.toNat
  split
  ·dsimp only;omega
  ·simp
 ·simp
theorem Og:∀(k i:Nat) (l:List Int),i+k=l.length→l.length<4611686018427387904→Bh A0 ((i:Int),l)=some ()
 | 0,i,l,hi,hl=>by
  obtain rfl:i=l.length:=by omega
  refine Ay ?_;unfold A0
  dsimp only
  rw[Fz,cond_false]
 | k+1,i,l,hi,hl=>by
  have step:A0 ((i:Int),l)=some (.next (((i+1:Nat):Int),l.set i (Nf (l.getD i 0+1)))):=by
   unfold A0
   dsimp only
   rw[Dg (by omega),cond_true,Ae (Mw (by omega)),Ae (Mw (by omega)),Bk,w1 (by omega)]
  rw[Bx step];exact Og k (i+1) _ (by simp;omega) (by simpa using hl)
theorem Mg{S:List TDo}(hs:∀ d∈S,(0≤d.At∧d.At<18446744073709551616)∧∀ v∈d.List,0≤v∧v<18446744073709551616):∀(k i:Nat) (t:List Aa) (B:List Int),i+k=60→E5 B→B.length≤4096→t.length≤128*i→
  Bh (Ai S) ((i:Int),t,B,t,B)=some (.inr true)∨∃ t' B',Bh (Ai S) ((i:Int),t,B,t,B)=some (.inl (t',B',t',B'))∧B'.length≤4096∧t'.length≤7680
 | k,i,t,B,hi,hB,hL,ht=>by
  by_cases hlt:i<S.length
  ·cases k with
   | zero=>
    obtain rfl:i=60:=by omega
    refine .inr ⟨t,B,Ay ?_,hL,by omega⟩;unfold Ai
    dsimp only
    rw[Dg hlt,cond_true]
    rfl
   | succ k=>
    have hc:(bif decide ((i:Int)<(S.length:Int)) then decide ((i:Int)<60) else false)=true:=by rw[Dg hlt,cond_true];exact decide_eq_true (by omega)
    obtain⟨⟨hd1,hd2⟩,hd3⟩:=hs _ (Kg (d:=default) hlt)
    generalize hd:S.getD i default=d at hd1 hd2 hd3
    by_cases h100:100<d.List.length
    ·refine .inl (Ay ?_);unfold Ai
     dsimp only
     rw[hc,cond_true,Ae (Mw hlt),Bk,hd,decide_eq_true (by omega),cond_true]
    ·
     have hnext:∃ t' B',Ai S ((i:Int),t,B,t,B)=some (.next (((i+1:Nat):Int),t',B',t',B'))∧E5 B'∧B'.length≤4096∧t'.length≤t.length+128:=by
      cases hw:d.Write with
      | true=>
       obtain⟨f1,f2,f3⟩:=Tx d.At d.Bits d.List B t;refine⟨(WR d.At d.Bits d.List B t).2.1,(WR d.At d.Bits d.List B t).2.2,?_,f3 hB,by omega,f2⟩;unfold Ai
       dsimp only
       rw[hc,cond_true,Ae (Mw hlt),Bk,hd,decide_eq_false (by omega),cond_false,hw,cond_true];rw[P5 hd1 (by omega) (by rw[D6];omega),Option.bind_some,Ae f1.symm,Um hd1 hd2 hd3 (by omega) (by rw[D6];omega),Option.bind_some,Ae f1.symm];rw[show((WR d.At d.Bits d.List B t).1 !=(WR d.At d.Bits d.List B t).1)=false by simp,cond_false,Option.bind_some]
       dsimp only
       rw[Ey hd1 (by omega),Option.bind_some,Ae rfl,Nb hd1 hd2 (by omega),Option.bind_some,Ae rfl]
       dsimp only
       rw[show ∀ b:Bool,(b !=b)=false by decide,cond_false,w1 (by omega)]
      | false=>
       obtain⟨f1,f2⟩:=Tw d.At d.Bits d.N B t;refine⟨(RD d.At d.Bits d.N B t).2.2.1,B,?_,hB,hL,f2⟩;unfold Ai
       dsimp only
       rw[hc,cond_true,Ae (Mw hlt),Bk,hd,decide_eq_false (by omega),cond_false,hw,cond_false];rw[Pa hd1 hB (by omega) (by rw[D6];omega),Option.bind_some,Ae (by rw[f1]),Vx hd1 hd2 hB (by omega) (by rw[D6];omega),Option.bind_some,Ae (by rw[f1]),My (Ve _ _ _ _ _),Option.bind_some];rw[show((RD d.At d.Bits d.N B t).2.1 !=(RD d.At d.Bits d.N B t).2.1)=false by simp,Bool.not_true,cond_false,cond_false,Option.bind_some]
       dsimp only
       rw[f1,Ey hd1 (by omega),Option.bind_some,Ae rfl,Nb hd1 hd2 (by omega),Option.bind_some,Ae rfl]
       dsimp only
       rw[show ∀ b:Bool,(b !=b)=false by decide,cond_false,w1 (by omega)]
     obtain⟨t',B',h1,h2,h3,h4⟩:=hnext;rw[Bx h1];exact Mg hs k (i+1) t' B' (by omega) h2 h3 (by omega)
  ·refine .inr ⟨t,B,Ay ?_,hL,by omega⟩;unfold Ai
   dsimp only
   rw[decide_eq_false (by omega),cond_false,cond_false]
theorem plays12(b:List Int)(S:List TDo)(hb:E5 b)(hs:∀ d∈S,(0≤d.At∧d.At<18446744073709551616)∧∀ v∈d.List,0≤v∧v<18446744073709551616):Bz b S=some true:=by
 unfold Bz;rw[Q2,Option.bind_some,Bool.not_true,cond_false]
 by_cases h5:5000<b.length
 ·rw[decide_eq_true (by omega),cond_true]
 ·rw[decide_eq_false (by omega),cond_false,Ae (by rw[D6];omega)]
  by_cases h4:4096<b.length
  ·rw[Q1 h4,Option.bind_some]
   dsimp only
   rw[cond_false,decide_eq_true (by omega),cond_true]
   rfl
  ·rw[N8 (by omega),Option.bind_some]
   dsimp only
   rw[cond_true,Ae (show([]:List Aa).length=0 from rfl),decide_eq_false (by omega),cond_false,show((0:Int)!=0)=false by decide,cond_false];have h1:=Og b.length 0 b (by omega) (by omega);rw[show((0:Nat):Int)=0 from rfl]at h1;rw[h1,Option.bind_some];rw[Ae (by rw[D6];omega)];have h2:=Mg hs 60 0 [] b (by omega) hb (by omega) (by simp);rw[show((0:Nat):Int)=0 from rfl]at h2;rcases h2 with h2|⟨t',B',h2,h3,h6⟩
   ·rw[h2,Option.bind_some]
   ·rw[h2,Option.bind_some]
    dsimp only
    rw[P3 (by rw[D6];omega),Option.bind_some,Ae rfl]
    dsimp only
    rw[Ji (by omega),Option.bind_some,cond_true,P4 (by rw[D6];omega),Option.bind_some,Ae rfl]
    dsimp only
    rw[Ko (by omega),Option.bind_some]
theorem wf_u64{n:Int}(h:(Lit.int .u64 n).wf=true):0≤n∧n<18446744073709551616:=by simp[Lit.wf,IntKind.min,IntKind.max,IntKind.bits,IntKind.signed]at h;omega
theorem wf_u8{n:Int}(h:(Lit.int .u8 n).wf=true):0≤n∧n<256:=by simp[Lit.wf,IntKind.min,IntKind.max,IntKind.bits,IntKind.signed]at h;omega
abbrev Iall(w:World):Nat→Nat→Prop:=fun b o=>∃ u,w.cell? ⟨b,o,none⟩=some u
structure Rv(w:World)(cs:List Value)(avs:List AV):Prop where
 len:cs.length=avs.length
 one:∀ j,j<avs.length→(cs.getD j undef).oneCell'=true
 rep:∀ j,j<avs.length→RepV (Iall w) w (cs.getD j undef) (avs.getD j .any)
structure Opens(P:Program)(t:TypeId){α:Type}(e:α→List AV)(ok:α→Prop):Prop where
 get:∀{H:Type} {enc:TypeId×Value→H} {w:World} {base:Nat} {spare:Nat→Bool} {held:Bool} {fuel:Nat} {cs:List Value} {x:DataW H×List MemPlace},
  DataW.trod enc P w base spare held fuel t cs=some x→∃ a,ok a∧Rv w cs (e a)
theorem H3{w:World}{v:Value}{x:AV}(h1:v.oneCell'=true)(h:RepV (Iall w) w v x):Rv w [v] [x]:=
 ⟨rfl,fun j hj=>(by
   have hj0:j=0:=by simpa using hj
   subst hj0
   exact h1),fun j hj=>(by
   have hj0:j=0:=by simpa using hj
   subst hj0
   exact h)⟩
theorem Iz{P:Program}{t:TypeId}{k:IntKind}{e:Int→List AV}(ht:P.underlying t=some (.int k))(he:∀ n,e n=[.int k n]):Opens P t e (fun n=>(Lit.int k n).wf=true):=by
 refine⟨?_⟩;intro H enc w base spare held fuel cs x h;obtain⟨n,rfl,rfl,hw⟩:=DataW.trod_int ht h;exact⟨n,hw,by rw[he];exact H3 rfl (.int _ _)⟩
theorem Ph{P:Program}{t:TypeId}{e:Bool→List AV}(ht:P.underlying t=some .bool)(he:∀ n,e n=[.bool n]):Opens P t e (fun _=>True):=by
 refine⟨?_⟩;intro H enc w base spare held fuel cs x h;obtain⟨n,rfl,rfl⟩:=DataW.trod_bool ht h;exact⟨n,trivial,by rw[he];exact H3 rfl (.bool _)⟩
theorem O4{w:World}{base:Nat}{a:Addr}{n:Nat}{cs:List Value}(h:w.cells? base a n=some cs):cs.length=n∧∀ i,i<n→w.cell? (a.add i)=some (cs.getD i undef):=by
 unfold World.cells? at h
 split at h
 ·have hl:=mapM_some_length h;simp at hl;refine⟨hl,fun i hi=>?_⟩;have:=mapM_some_get h i i (by simp[hi]);rw[this];simp[List.getD,show i<cs.length by omega]
 ·cases h
theorem Gi{P:Program}{t el:TypeId}{α:Type}{e:α→List AV}{ok:α→Prop}{sz:Nat}{d:α}{e':List α→List AV}(ht:P.underlying t=some (.slice el))(hs:P.cellsOf el=sz)(h1:1≤sz)(he:Opens P el e ok)(hlen:∀ a,(e a).length=sz)
  (he':∀ l,e' l=[AV.list sz e d l .none]):Opens P t e' (fun l=>(∀ a∈l,ok a)∧l.length≤maxLen):=by
 refine⟨?_⟩;intro H enc w base spare held fuel cs x h;rcases DataW.trod_slice ht h with⟨rfl,rfl⟩|⟨a,len,cap,elems,rest,n,_,rfl,rfl,hb,hl,hm,hlen2,hel,_⟩
 ·exact⟨[],⟨by simp,by simp⟩,by rw[he'];exact H3 rfl (.slice none 0 0 sz _ (fun _=>undef) (Nat.le_refl _) (by simp) (fun h=>by simp at h) (fun _=>rfl) (fun j hj=>by simp at hj) (fun i hi=>by simp at hi) (fun i c hi=>by simp at hi))⟩
 ·have each:∀ i:Fin len,∃ b,ok b∧∃ cs,w.cells? base (a.add (i.1*sz)) sz=some cs∧Rv w cs (e b):=fun⟨i,hi⟩=>by
   have:=hel i hi;rw[hs,List.getElem?_eq_getElem (by omega),Option.bind_eq_some_iff]at this;obtain⟨cs,hcs,htr⟩:=this;obtain⟨b,hb,hr⟩:=he.get htr;exact⟨b,hb,cs,hcs,hr⟩
  let f:Fin len→α:=fun i=>(each i).choose
  have hf:∀ i,ok (f i)∧∃ cs,w.cells? base (a.add (i.1*sz)) sz=some cs∧Rv w cs (e (f i)):=fun i=>(each i).choose_spec
  have hlf:(List.ofFn f).length=len:=by simp
  refine⟨List.ofFn f,⟨fun b hb=>?_,by simp;omega⟩,?_⟩
  ·obtain⟨i,rfl⟩:=List.mem_ofFn.1 hb;exact(hf i).1
  rw[he'];refine H3 rfl ?_
  have hcell0:∀ i (hi:i<len),∀ c,c<sz→∃ u,w.cell? ((a.add (i*sz)).add c)=some u∧u.oneCell'=true∧RepV (Iall w) w u ((e (f ⟨i,hi⟩)).getD c .any):=fun i hi c hc=>by
   obtain⟨_,cs,hcs,hr⟩:=hf ⟨i,hi⟩;obtain⟨hl,hg⟩:=O4 hcs;exact⟨_,hg c hc,hr.one c (by rw[hlen];exact hc),hr.rep c (by rw[hlen];exact hc)⟩
  have hspot:0<len→a.spot=none:=fun hp=>by
   obtain⟨u,hu,_⟩:=hcell0 0 hp 0 h1;have h2:=World.cell?_spot hu
   simpa [Addr.add] using h2
  have hcell:∀ i (hi:i<len),∀ c,c<sz→∃ u,w.cell? ⟨a.block,a.off+(i*sz+c),none⟩=some u∧u.oneCell'=true∧RepV (Iall w) w u ((e (f ⟨i,hi⟩)).getD c .any):=fun i hi c hc=>by
   obtain⟨u,hu,h1,h2⟩:=hcell0 i hi c hc;have hsp:=hspot (by omega);rw[Cu hsp,Addr.add_lit]at hu;exact⟨u,by rw[← Nat.add_assoc];exact hu,h1,h2⟩
  have hdm:∀ j,j<len*sz→∃ i c,i<len∧c<sz∧j=i*sz+c:=fun j hj=>by
   refine⟨j / sz,j % sz,(Nat.div_lt_iff_lt_mul (by omega)).2 hj,Nat.mod_lt _ (by omega),?_⟩;rw[Nat.mul_comm];exact(Nat.div_add_mod j sz).symm
  unfold AV.list;rw[hlf];refine .slice (some a) len cap sz _ (fun j=>(w.cell? ⟨a.block,a.off+j,none⟩).getD undef) hl hm (fun hp=>⟨a,rfl,hspot hp,fun j hj=>?_,fun j hj=>?_⟩) (fun h=>by cases h) (fun j hj=>?_) (fun i hi=>hlen _) (fun i c hi hc=>?_)
  ·obtain⟨i,c,hi,hc,rfl⟩:=hdm j hj;obtain⟨u,hu,_⟩:=hcell i hi c hc;exact⟨u,hu⟩
  ·obtain⟨i,c,hi,hc,rfl⟩:=hdm j hj;obtain⟨u,hu,_⟩:=hcell i hi c hc;rw[hu];rfl
  ·obtain⟨i,c,hi,hc,rfl⟩:=hdm j hj;obtain⟨u,hu,h1,_⟩:=hcell i hi c hc;simp only[hu];exact h1
  ·obtain⟨u,hu,_,h2⟩:=hcell i hi c hc
   have e1:(List.ofFn f).getD i d=f ⟨i,hi⟩:=by simp[List.getD,hi]
   rw[e1,hu];exact h2
structure Mo(P:Program)(fs:List Field)(off N:Nat){α:Type}(e:α→List AV)(ok:α→Prop):Prop where
 get:∀{H:Type} {enc:TypeId×Value→H} {w:World} {base:Nat} {spare:Nat→Bool} {held:Bool} {n:Nat} {cs:List Value},cs.length=N→
  (∀ f∈fs,∃ x,DataW.trod enc P w base spare held n f.type ((cs.drop f.offset).take (P.cellsOf f.type))=some x)→∃ a,ok a∧Rv w (cs.drop off) (e a)
theorem Pg{P:Program}{N:Nat}:Mo P [] N N (fun _:Unit=>[]) (fun _=>True):=by
 refine⟨?_⟩;intro H enc w base spare held n cs hN _;rw[List.drop_eq_nil_of_le (by omega)];exact⟨(),trivial,rfl,(fun j hj=>by simp at hj),(fun j hj=>by simp at hj)⟩
theorem Dv{P:Program}{f:Field}{fs:List Field}{off sz N:Nat}{α β:Type}{e:α→List AV}{ok:α→Prop}{e':β→List AV}{ok':β→Prop}(hoff:f.offset=off)(hsz:P.cellsOf f.type=sz)(hle:off+sz≤N)
  (h:Opens P f.type e ok) (h':Mo P fs (off+sz) N e' ok'):Mo P (f::fs) off N (fun p:α×β=>e p.1++e' p.2) (fun p=>ok p.1∧ok' p.2):=by
 refine⟨?_⟩;intro H enc w base spare held n cs hN hall;obtain⟨x,hx⟩:=hall f (by simp);rw[hoff,hsz]at hx;obtain⟨a,ha,hr⟩:=h.get hx;obtain⟨b,hb,hr'⟩:=h'.get hN (fun g hg=>hall g (by simp[hg]))
 have hl:(e a).length=sz:=by rw[← hr.len];simp;omega
 have hl':(e' b).length=N-(off+sz):=by rw[← hr'.len];simp;omega
 have hsplit:cs.drop off=(cs.drop off).take sz++cs.drop (off+sz):=by rw[← List.drop_drop];exact(List.take_append_drop sz _).symm
 have hl2:((cs.drop off).take sz).length=sz:=by simp;omega
 refine⟨(a,b),⟨ha,hb⟩,?_,fun j hj=>?_,fun j hj=>?_⟩
 ·simp[hl,hl'];omega
 ·rw[hsplit];replace hj:j<(e a++e' b).length:=hj
  show _
  by_cases hlt:j<sz
  ·have:=hr.one j (by omega);rwa[List.getD,List.getElem?_append_left (by omega)]
  ·have:=hr'.one (j-sz) (by simp at hj;omega);rwa[List.getD,List.getElem?_append_right (by omega),hl2]
 ·rw[hsplit];replace hj:j<(e a++e' b).length:=hj
  show RepV (Iall w) w _ ((e a++e' b).getD j .any)
  by_cases hlt:j<sz
  ·have:=hr.rep j (by omega);rwa[List.getD,List.getElem?_append_left (by omega),List.getD,List.getElem?_append_left (by omega)]
  ·have:=hr'.rep (j-sz) (by simp at hj;omega);rwa[List.getD,List.getElem?_append_right (by omega),hl2,List.getD,List.getElem?_append_right (by omega),hl]
theorem M7{P:Program}{t:TypeId}{fs:Array Field}{N:Nat}{α:Type}{e:α→List AV}{ok:α→Prop}(ht:P.underlying t=some (.struct fs))(hN:P.cellsOf t=N)(h:Mo P fs.toList 0 N e ok):Opens P t e ok:=by
 refine⟨?_⟩;intro H enc w base spare held fuel cs x hx;obtain⟨xs,n,_,_,hl,hxl,hall⟩:=DataW.trod_struct ht hx
 have:=h.get (n:=n) (hl.trans hN) (enc:=enc) (w:=w) (base:=base) (spare:=spare) (held:=held) (fun f hf=>by
  obtain⟨i,hi,rfl⟩:=List.mem_iff_getElem.1 hf
  have hi':i<fs.size:=by simpa using hi
  have:=hall i fs.toList[i] (by simp[hi']);rw[List.getElem?_eq_getElem (by omega)]at this
  exact⟨_,this⟩)
 simpa using this
theorem Opens.to{P:Program}{t:TypeId}{α β:Type}{e:α→List AV}{ok:α→Prop}(h:Opens P t e ok){e':β→List AV}{ok':β→Prop}(g:α→β)(he:∀ a,e' (g a)=e a)(hok:∀ a,ok a→ok' (g a)):Opens P t e' ok':=by
 refine⟨?_⟩;intro H enc w base spare held fuel cs x hx;obtain⟨a,ha,hr⟩:=h.get hx;exact⟨g a,hok a ha,by rw[he];exact hr⟩
theorem arg_one{P:Program}{t:TypeId}{α:Type}{e:α→List AV}{ok:α→Prop}(h:Opens P t e ok){x:α→AV}(he:∀ a,e a=[x a]){H:Type}{enc:TypeId×Value→H}{w:World}{base:Nat}{spare:Nat→Bool}{held:Bool}{v:Value}{d:DataW H}{ps:List MemPlace}
  (hv:v.cells = #[v]) (hd:DataW.Trod enc P w base spare held t v d ps):∃ a,ok a∧RepV (Iall w) w v (x a):=by
 obtain⟨fuel,hf⟩:=hd;obtain⟨a,ha,hr⟩:=h.get hf;refine⟨a,ha,?_⟩;have:=hr.rep 0 (by simp[he])
 simpa [hv,he] using this
def Wn(x:List (TDo)):List AV:=[(AV.list 5 eTDo (default:TDo) x .none)]
def Wx(n:Int):Prop:=(Lit.int .u8 n).wf=true
theorem X4:Opens Try.prog 5 eU8 Wx:=Iz Try.underlying5 (fun _=>rfl)
def okLU8(l:List (Int)):Prop:=(∀ a∈l,Wx a)∧l.length≤maxLen
theorem op_22:Opens Try.prog 22 Xz okLU8:=Gi (d:=(0:Int)) Try.underlying22 (by kernel_rfl) (by decide) X4 (fun _=>rfl) (fun _=>rfl)
def Yq(n:Bool):Prop:=True
theorem X3:Opens Try.prog 4 eB Yq:=Ph Try.underlying4 (fun _=>rfl)
def S5(n:Int):Prop:=(Lit.int .u64 n).wf=true
theorem Va:Opens Try.prog 33 B6 S5:=Iz Try.underlying33 (fun _=>rfl)
def S3(n:Int):Prop:=(Lit.int .i64 n).wf=true
theorem Wz:Opens Try.prog 3 Xy S3:=Iz Try.underlying3 (fun _=>rfl)
def S4(l:List (Int)):Prop:=(∀ a∈l,S5 a)∧l.length≤maxLen
theorem W0:Opens Try.prog 34 Wo S4:=Gi (d:=(0:Int)) Try.underlying34 (by kernel_rfl) (by decide) Va (fun _=>rfl) (fun _=>rfl)
def U9(a:TDo):Prop:=Yq a.Write∧S5 a.At∧S3 a.Bits∧S3 a.N∧S4 a.List∧True
theorem W1:Opens Try.prog 36 eTDo U9:=Opens.to (M7 (N:=5) Try.underlying36 (by kernel_rfl) (Dv (off:=0) (sz:=1) (N:=5) rfl (by kernel_rfl) (by decide) X3 (Dv (off:=1) (sz:=1) (N:=5) rfl (by kernel_rfl) (by decide) Va (Dv (off:=2) (sz:=1) (N:=5) rfl (by kernel_rfl) (by decide) Wz (Dv (off:=3) (sz:=1) (N:=5) rfl (by kernel_rfl) (by decide) Wz (Dv (off:=4) (sz:=1) (N:=5) rfl (by kernel_rfl) (by decide) W0 Pg)))))) (fun p=>⟨p.1,p.2.1,p.2.2.1,p.2.2.2.1,p.2.2.2.2.1⟩) (fun _=>rfl) (fun _ h=>h)
def okLTDo(l:List (TDo)):Prop:=(∀ a∈l,U9 a)∧l.length≤maxLen
theorem op_23:Opens Try.prog 23 Wn okLTDo:=Gi (d:=(default:TDo)) Try.underlying23 (by kernel_rfl) (by decide) W1 (fun _=>rfl) (fun _=>rfl)
end
end Go.Proofs.Ytbhekciniaeolaa
