/-
  The machine, the program's functions and the laws' arithmetic: part 3 of 6.
-/
import Derived.Test.YtaeaenoaomdimaaGreatPk2
import Derived.BigCall
import Derived.Lib.RowBridge
import Derived.Shelf.Slices.Clone
import Derived.Shelf.Slices.CompactI
import Derived.Shelf.Slices.In.SortNone
import Derived.Shelf.Sort.Plain
import Derived.Sort.OwnSortedInts
import Derived.Test.YtaeaenoaomdimaaGreatProg
set_option linter.unusedVariables false
set_option linter.unusedSimpArgs false
namespace Go.Proofs.YtaeaenoaomdimaaGreat
noncomputable section
open Go Go.RowKit
inductive sF where
 | nx (y:Code)
 | bl (id:Nat)
 | ag (c:Code) (n:Nat)
inductive O2 where
 | run (c:Code) (fs:List sF)
 | out (e:Exit) (fs:List sF)
def sB(P:Program)(Γ:Il)(K:Exit->St->Prop):List sF->Exit->St->Prop
 | []=>K
 | .nx y::fs=>wO P Γ y (sB P Γ K fs)
 | .bl id::fs=>KU id (sB P Γ K fs)
 | .ag c n::fs=>λe st=>(e = .normal/\QQ P Γ c (sB P Γ K fs) n st)\/(e≠.normal/\sB P Γ K fs e st)
def GG(P:Program)(Γ:Il)(K:Exit->St->Prop):O2->St->Prop
 | .run c fs,st=>AW P Γ c (sB P Γ K fs) st
 | .out e fs,st=>sB P Γ K fs e st
def CK:Code->Nat->Nat
 | .exit i,k=>bif Nat.beq i k then 1 else 0
 | .seq a b,k=>Nat.min 2 (CK a k+CK b k)
 | .cond _ a b,k=>Nat.min 2 (CK a k+CK b k)
 | .loop c,k=>Nat.min 1 (CK c k)
 | .scope c,k=>Nat.min 1 (CK c k)
 | .block _ c,k=>CK c k
 | _,_=>0
def Uv:Code->Nat
 | .region _ _ _=>1
 | .skip=>1
 | .label _=>1
 | .seq a b=>bif Nat.beq (Uv a) 0 then 0 else Uv b
 | .cond _ a b=>Nat.min 2 (Uv a+Uv b)
 | .block i c=>Nat.min 2 (Uv c+CK c i)
 | .scope c=>Nat.min 2 (Uv c)
 | _=>0
def pQ(a:Code):Bool:=match a with | .region _ _ _=>false|a=>Nat.ble 2 (Uv a)
def TK:Nat->Code ⊕ Exit->List sF->O2
 | 0,.inl c,fs=>.run c fs
 | 0,.inr e,fs=>.out e fs
 | n+1,.inl c,fs=>
  match c with
  | .skip=>TK n (.inr .normal) fs
  | .label _=>TK n (.inr .normal) fs
  | .seq a b=>bif pQ a then .run (.seq a b) fs else TK n (.inl a) (.nx b::fs)
  | .block id a=>TK n (.inl a) (.bl id::fs)
  | .exit id=>TK n (.inr (.exit id)) fs
  | .goto l=>TK n (.inr (.goto l)) fs
  | .ret=>TK n (.inr .ret) fs
  | c=>.run c fs
 | n+1,.inr e,fs=>
  match fs with
  | []=>.out e []
  | .nx y::fs=>(match e with | .normal=>TK n (.inl y) fs|e=>TK n (.inr e) fs)
  | .bl id::fs=>(match e with | .exit i=>bif Nat.beq i id then TK n (.inr .normal) fs else TK n (.inr (.exit i)) fs|e=>TK n (.inr e) fs)
  | .ag c m::fs=>(match e with | .normal=>(match m with|0=>.out .normal (.ag c 0::fs)|m+1=>TK n (.inl c) (.ag c m::fs))|e=>TK n (.inr e) fs)
section
variable {P:Program} {Γ:Il} {K:Exit->St->Prop}
theorem Cd:∀(n:Nat) (x:Code ⊕ Exit) (fs:List sF) (st:St),GG P Γ K (TK n x fs) st->(match x with | .inl c=>AW P Γ c (sB P Γ K fs) st | .inr e=>sB P Γ K fs e st)
 | 0,.inl c,fs,st,h=>h
 | 0,.inr e,fs,st,h=>h
 | n+1,.inl c,fs,st,h=>by
  cases c with
  | skip=>exact oc (Cd n _ fs st h)
  | label l=>exact ll (Cd n _ fs st h)
  | seq a b=>
   cases hj:pQ a with
   | true=>simp only[TK,hj]at h;exact h
   | false=>simp only[TK,hj]at h;exact j0 (Cd n (.inl a) _ st h)
  | block id a=>exact lk (Cd n (.inl a) _ st h)
  | exit id=>exact oX (Cd n _ fs st h)
  | goto l=>exact oY (Cd n _ fs st h)
  | ret=>exact ta (Cd n (.inr .ret) fs st h)
  | _=>exact h
 | n+1,.inr e,[],st,h=>h
 | n+1,.inr e,.nx y::fs,st,h=>by
  cases e with
  | normal=>exact Cd n (.inl y) fs st h
  | exit i=>exact Cd n _ fs st h
  | goto l=>exact Cd n _ fs st h
  | ret=>exact Cd n (.inr .ret) fs st h
  | panic c=>exact Cd n _ fs st h
  | outgrown=>exact Cd n _ fs st h
 | n+1,.inr e,.bl id::fs,st,h=>by
  cases e with
  | normal=>exact Cd n _ fs st h
  | exit i=>
   cases hb:Nat.beq i id with
   | true=>
    obtain rfl:=De hb;simp only[TK,hb]at h;exact gz (Cd n _ fs st h)
   | false=>
    simp only[TK,hb]at h;exact gy hb (Cd n _ fs st h)
  | goto l=>exact Cd n _ fs st h
  | ret=>exact Cd n (.inr .ret) fs st h
  | panic c=>exact Cd n _ fs st h
  | outgrown=>exact Cd n _ fs st h
 | n+1,.inr e,.ag c m::fs,st,h=>by
  cases e with
  | normal=>
   cases m with
   | zero=>exact h
   | succ m=>exact .inl ⟨rfl,Cd n (.inl c) _ st h⟩
  | exit i=>exact .inr ⟨(by intro hh;cases hh),Cd n _ fs st h⟩
  | goto l=>exact .inr ⟨(by intro hh;cases hh),Cd n _ fs st h⟩
  | ret=>exact .inr ⟨(by intro hh;cases hh),Cd n (.inr .ret) fs st h⟩
  | panic ch=>exact .inr ⟨(by intro hh;cases hh),Cd n _ fs st h⟩
  | outgrown=>exact .inr ⟨(by intro hh;cases hh),Cd n _ fs st h⟩
theorem Lu{n:Nat}{c:Code}{fs:List sF}{st:St}(h:GG P Γ K (TK n (.inl c) fs) st):AW P Γ c (sB P Γ K fs) st:=Cd n _ fs st h
theorem W7{n:Nat}{e:Exit}{fs:List sF}{st:St}(h:GG P Γ K (TK n (.inr e) fs) st):sB P Γ K fs e st:=Cd n _ fs st h
def wD(c:Code)(fs:List sF):O2:=TK 400 (.inl c) fs
def exC(e:Exit)(fs:List sF):O2:=TK 400 (.inr e) fs
def uf:O2->O2
 | .run _ fs=>exC .normal fs
 | x=>x
def ut:O2->Option (List Oper×Bool)
 | .run (.region _ ops draw) _=>some (ops.toList,draw)
 | _=>none
def r9(P:Program)(S:IL)(n:Nat)(cs:List (Nat×AV))(live names:List Nat)(x:O2)(st:St)(rs:List Qj):Option (St×List Prop×Bool):=
 match ut x with
 | some (ops,draw)=>QT P S n cs live names ops draw st rs
 | none=>none
def ug(P:Program)(S:IL)(n:Nat)(cs:List (Nat×AV))(live names:List Nat)(x:O2)(st:St)(rs:List Qj):St:=
 match r9 P S n cs live names x st rs with
 | some r=>r.1
 | none=>st
def sC(r:Option (St×List Prop×Bool)):Option (Prop×Bool):=
 match r with
 | some r=>some (dn r.2.1,r.2.2)
 | none=>none
theorem gR{x:O2}{st:St}{n:Nat}{H:List (Nat×Own)}(q:RgQ P Γ n H)(live names:List Nat)(cs:List (Nat×AV))(rs:List Qj){O:Prop}(hO:O)
  (k:GG P Γ K (uf x) (ug P (Spec P) n cs live names x st rs))
  (h:sC (r9 P (Spec P) n cs live names x st rs)=some (O,true):=by kernel_rfl) (hh:(H.all λx=>B3 x.1 names)=true:=by kernel_rfl):GG P Γ K x st:=by
 unfold r9 at h;unfold ug r9 at k
 cases x with
 | out e fs=>simp[ut,sC]at h
 | run c fs=>
  cases c with
  | region id ops draw=>
   simp only[ut]at h k
   cases hr:QT P _ n cs _ _ _ _ st rs with
   | none=>rw[hr]at h;simp[sC]at h
   | some r=>
    obtain⟨st',obs,d⟩:=r;rw[hr]at h k;obtain⟨rfl,rfl⟩:=h;have:=gw (id:=id)  q.hn q.mix (q.hand hh) hr hO (W7 k);exact(by simpa using this:AW P Γ _ _ st)
  | _=>simp[ut,sC]at h
theorem Ae{x:O2}{st:St}{n:Nat}{H:List (Nat×Own)}(q:RgQ P Γ n H)(live names:List Nat)
  (k:GG P Γ K (uf x) (ug P (Spec P) n [] live names x st []))
  (h:sC (r9 P (Spec P) n [] live names x st [])=some (True,true):=by kernel_rfl) (hh:(H.all λx=>B3 x.1 names)=true:=by kernel_rfl):GG P Γ K x st:=gR q _ _ [] [] trivial k h hh
def wF:O2->Bool | .run _ _=>true|_=>false
theorem M6{x:O2}{st st':St}(h:Le Γ st st')
  (k:GG P Γ K x st')
  (hx:wF x=true:=by kernel_rfl):GG P Γ K x st:=by
 cases x with
 | run c fs=>exact gu h k
 | out e fs=>cases hx
theorem Qi{x:O2}{st:St}(st':St)
  (k:GG P Γ K x st')
  (h:st=st':=by kernel_rfl):GG P Γ K x st:=h▸k
def pA(x:O2)(st:St):AV:=match x with | .run (.cond c _ _) _=>dz st.get c|_=>.any
def brC(b:Bool):O2->O2
 | .run (.cond _ c d) fs=>wD (bif b then c else d) fs
 | x=>x
theorem gC{x:O2}{st:St}{R:Type}{b:Bool}{m1 m2:Option R}{r:R}(h:(bif b then m1 else m2)=some r)
  (kt:m1=some r->GG P Γ K (brC true x) st) (kf:m2=some r->GG P Γ K (brC false x) st)
  (hv:pA x st = .bool b:=by kernel_rfl):GG P Γ K x st:=by
 cases x with
 | out e fs=>cases hv
 | run c fs=>
  cases c with
  | cond c y z=>
   refine dY b hv (λhb=>Lu  (kt ?_)) (λhb=>Lu  (kf ?_))
   ·subst hb;exact h
   ·subst hb;exact h
  | _=>cases hv
theorem FR{x:O2}{st:St}(b:Bool)
  (k:GG P Γ K (brC b x) st)
  (hv:pA x st = .bool b:=by kernel_rfl):GG P Γ K x st:=by
 cases x with
 | out e fs=>cases hv
 | run c fs=>
  cases c with
  | cond c y z=>
   refine dY b hv (λhb=>Lu (n:=400) ?_) (λhb=>Lu (n:=400) ?_)
   ·subst hb;exact k
   ·subst hb;exact k
  | _=>cases hv
theorem Aaj{x:O2}{st:St}(pos:Bool)(n:Nat)
  (kt:(pos=true->n=0)->GG P Γ K (brC true x) st) (kf:(pos=false->n=0)->GG P Γ K (brC false x) st)
  (hv:pA x st = .nilq pos n:=by kernel_rfl):GG P Γ K x st:=by
 cases x with
 | out e fs=>cases hv
 | run c fs=>
  cases c with
  | cond c y z=>exact oa pos n hv (λhb=>Lu  (kt hb)) (λhb=>Lu  (kf hb))
  | _=>cases hv
theorem gB{R:Type}{c:Bool}{m1 m2:Option R}{r:R}{G:Prop}(h:(bif c then m1 else m2)=some r)(kt:c=true->m1=some r->G)(kf:c=false->m2=some r->G):G:=by
 grind
theorem vu(F:Bool->Prop){c b:Bool}(hs:c=b)(h:F c):F b:=hs▸h
theorem lt1{P:Nat->Prop}(h0:P 0)(i:Nat)(h:i<1):P i:=by
 grind
theorem lt2{P:Nat->Prop}(h0:P 0)(h1:P 1)(i:Nat)(h:i<2):P i:=by
 grind
theorem rk(o:Own):some o=some o:=rfl
theorem Cq{k:IntKind}{a b:Int}(h:decide (a=b)=true):AVle (.int k a) (.int k b):=by rw[MW h];exact .refl _
theorem CI{a b:Bool}(h:a=b):AVle (.bool a) (.bool b):=by rw[h];exact .refl _
theorem XM{p:Prop}(h:false=true):p:=Bool.noConfusion h
theorem gNt{p:Prop}(h:true=false):p:=Bool.noConfusion h
theorem gK{x:O2}{st:St}{e:Exit}(h:K e st)(hx:x = .out e []:=by kernel_rfl):GG P Γ K x st:=by subst hx;exact h
def aG(Γ:Il)(e0:Exit)(og:St):Exit->St->Prop:=λe st=>e=e0/\Le Γ st og
def aR(K:Exit->St->Prop):Exit->St->Prop:=λe st=>e = .ret/\K e st
theorem Bd{e0:Exit}{og st:St}(h:Le Γ st og):aG Γ e0 og e0 st:=⟨rfl,h⟩
theorem Lc{st:St}(h:K .ret st):aR K .ret st:=⟨rfl,h⟩
def isN:Exit->Bool | .normal=>true|_=>false
theorem gN{S X:Type}{x:O2}{st:St}{H:S->St}{KX:X->Exit->St->Prop}{s':S}(h:Le Γ st (H s'))(hx:x = .out .normal []:=by kernel_rfl):GG P Γ (HQ Γ H KX (.next s')) x st:=by
 subst hx;exact⟨rfl,h⟩
theorem gO{S X:Type}{x:O2}{st:St}{H:S->St}{KX:X->Exit->St->Prop}{y:X}{e:Exit}(h:KX y e st)(hx:x = .out e []:=by kernel_rfl)(hn:isN e=false:=by kernel_rfl):GG P Γ (HQ Γ H KX (.done y)) x st:=by
 subst hx;exact⟨(by rintro rfl;cases hn),h⟩
def fK(P:Program)(Γ:Il)(rs:List ResultVar)(H:List (Nat×Own))(res:AV)(H':List (Nat×Own)):Exit->St->Prop:=clK Γ (Aa7 P rs H res H')
theorem Hu{rs:List ResultVar}{H H':List (Nat×Own)}{res:AV}{st st':St}{e:Exit}(ρ:List (Nat×Nat))(hl:Le Γ st st')(hr:kj P rs ρ H st'=some (res,H'):=by kernel_rfl)
  (he:(match e with | .ret=>true | .normal=>true|_=>false)=true:=by kernel_rfl):fK P Γ rs H res H' e st:=by
 refine⟨st',hl,?_,ρ,hr⟩
 cases e with
 | ret=>exact .inl rfl
 | normal=>exact .inr rfl
 | _=>cases he
theorem Be{rs:List ResultVar}{H H':List (Nat×Own)}{res:AV}{x:O2}{st:St}(ρ:List (Nat×Nat))(hr:kj P rs ρ H st=some (res,H'):=by kernel_rfl)
  (hx:x = .out .ret []:=by kernel_rfl):GG P Γ (fK P Γ rs H res H') x st:=gK  (Hu ρ (Le.refl _ _) hr) hx
def bc(fn:Func):Code:=match fn.body with|some c=>c|none=>.skip
theorem MG {f : FuncId} {fn : Func} {args : List AV} {H H' : List (Nat × Own)} {res : AV} (hm : P.follows .mixedOrders = true) (hf : P.funcs[f]? = some fn)
    (k : ∀ Γ : Il, RgQ P Γ fn.ntmps H → GG P Γ (fK P Γ fn.results.toList H res H') (wD (bc fn) []) (LB args H))
    (hb : fn.body.isSome = true := by kernel_rfl) (hname : (fn.name == "runtime.NumGoroutine") = false := by kernel_rfl) (hlen : Nat.ble args.length fn.ntmps = true := by kernel_rfl) (hpl : UC H = true := by kernel_rfl) : Spec P f args H res H' := by
  obtain ⟨c, hc⟩ := zzL72.1 hb
  have e : bc fn = c := by unfold bc; rw [hc]
  refine fY hf hc hname hlen (fun Γ hn hΓ => ?_) hpl; have := k Γ ⟨hn, hm, hΓ⟩; rw [e] at this; exact xT (Lu this)
theorem iK{st st':St}(h:st=st'):Le Γ st st':=h▸Le.refl Γ st
def bo:O2->Bool | .run (.loop _) _=>true|_=>false
def om:O2->O2
 | .run (.loop c) _=>wD c []
 | x=>x
def uv(e:Exit):O2->O2
 | .run _ fs=>exC e fs
 | x=>x
def Aa3{α:Type}(k:Nat)(x:α):List (Nat×α)->List (Nat×α)
 | []=>[(k,x)]
 | (k',y)::l=>bif Nat.beq k k' then(k,x)::l else bif Nat.blt k k' then(k,x)::(k',y)::l else(k',y)::Aa3 k x l
def u2{α:Type}:List (Nat×α)->List (Nat×α)->List (Nat×α)
 | [],l=>l
 | (k,x)::r,l=>u2 r (Aa3 k x l)
def Cs(st:St)(ts:List (Nat×AV))(os:List (Nat×Own))(fs:List (Nat×nC):=[]):St:=⟨u2 ts st.tmps,u2 os st.own,u2 fs st.fam⟩
def O1(live names:List Nat)(st:St)(ts:List (Nat×AV))(os:List (Nat×Own))(fs:List (Nat×nC):=[]):St:=Hr live names (Cs st ts os fs)
theorem gL{S X:Type}{x:O2}{st:St}{n:Nat}{Hf:List (Nat×Own)}(q:RgQ P Γ n Hf){f:S->Option (LR S X)}{s0:S}{y:X}(hx:Ad f s0=some y)(live names:List Nat)(H:St->S->St)(KX:St->X->Exit->St->Prop)
  (kb:∀ s y,f s=some y->GG P Γ (HQ Γ (H (Hr live names st)) (KX (Hr live names st)) y) (om x) (H (Hr live names st) s)) (ko:∀ e st',KX (Hr live names st) y e st'->GG P Γ K (uv e x) st')
  (h0:Hr live names st=H (Hr live names st) s0:=by kernel_rfl) (hl:bo x=true:=by kernel_rfl) (hh:(Hf.all λx=>B3 x.1 names)=true:=by kernel_rfl):GG P Γ K x st:=by
 cases x with
 | out e fs=>cases hl
 | run c fs=>
  cases c with
  | loop c=>
   refine gu  ?_ (da _ f _ (λs y hy=>Lu (kb s y hy)) hx λe st' hk=>W7 (ko e st' hk));rw[<- h0];exact Bk _ _ q rfl hh
  | _=>cases hl
theorem gL0{S X:Type}{x:O2}{st:St}{f:S->Option (LR S X)}{s0:S}{y:X}(hx:Ad f s0=some y)(H:St->S->St)(KX:St->X->Exit->St->Prop)
  (kb:∀ s y,f s=some y->GG P Γ (HQ Γ (H st) (KX st) y) (om x) (H st s)) (ko:∀ e st',KX st y e st'->GG P Γ K (uv e x) st')
  (h0:st=H st s0:=by kernel_rfl) (hl:bo x=true:=by kernel_rfl):GG P Γ K x st:=by
 cases x with
 | out e fs=>cases hl
 | run c fs=>
  cases c with
  | loop c=>exact gu (iK h0) (da _ f _ (λs y hy=>Lu (kb s y hy)) hx λe st' hk=>W7 (ko e st' hk))
  | _=>cases hl
theorem gA{x:O2}{f:Exit->O2->O2}{e0:Exit}{og:St}
  (k:GG P Γ K (f e0 x) og)
  (hr:wF (f e0 x)=true:=by kernel_rfl):∀ e st',aG Γ e0 og e st'->GG P Γ K (f e x) st':=by
 rintro e st' ⟨rfl,hl⟩;exact M6 hl k hr
theorem nH{x:O2}{f:Exit->O2->O2}{e0:Exit}{og:St}(k:∀ st',Le Γ st' og->GG P Γ K (f e0 x) st'):∀ e st',aG Γ e0 og e st'->GG P Γ K (f e x) st':=by
 rintro e st' ⟨rfl,hl⟩;exact k st' hl
theorem Pu{x:O2}{f:Exit->O2->O2}{K':Exit->St->Prop}(k:∀ st',K' .ret st'->GG P Γ K (f .ret x) st'):∀ e st',aR K' e st'->GG P Γ K (f e x) st':=by
 rintro e st' ⟨rfl,hl⟩;exact k st' hl
theorem gU{x:O2}{st:St}(n:Nat)
  (k:GG P Γ K (match x with | .run (.loop c) fs=>wD c (.ag c n::fs)|x=>x) st)
  (hl:bo x=true:=by kernel_rfl):GG P Γ K x st:=by
 cases x with
 | out e fs=>cases hl
 | run c fs=>
  cases c with
  | loop c=>exact gx (n+1) (Lu k)
  | _=>cases hl
def Aan:O2->Bool | .run (.seq _ _) _=>true|_=>false
def Aak:O2->O2
 | .run (.seq a _) _=>wD a []
 | x=>x
def Aa6(e:Exit):O2->O2
 | .run (.seq _ b) fs=>exC e (.nx b::fs)
 | x=>x
theorem gJ{X:Type}{x:O2}{st:St}{m:Option X}{y:X}(hx:m=some y)(KX:X->Exit->St->Prop)
  (kb:∀ y,m=some y->GG P Γ (KX y) (Aak x) st) (ko:∀ e st',KX y e st'->GG P Γ K (Aa6 e x) st')
  (hs:Aan x=true:=by kernel_rfl):GG P Γ K x st:=by
 cases x with
 | out e fs=>cases hs
 | run c fs=>
  cases c with
  | seq a b=>exact j0 (dZ KX hx (λy hy=>Lu (kb y hy)) λe st' hk=>W7 (ko e st' hk))
  | _=>cases hs
def Aam:O2->Bool | .run (.region _ _ _) _=>true|_=>false
def xQ:O2->O2
 | .run c _=>.run c []
 | x=>x
def Aaa(e:Exit):O2->O2
 | .run _ fs=>exC e fs
 | x=>x
theorem gJR{X:Type}{x:O2}{st:St}{m:Option X}{y:X}(hx:m=some y)(KX:X->Exit->St->Prop)
  (kb:∀ y,m=some y->GG P Γ (KX y) (xQ x) st) (ko:∀ e st',KX y e st'->GG P Γ K (Aaa e x) st')
  (hs:Aam x=true:=by kernel_rfl):GG P Γ K x st:=by
 cases x with
 | out e fs=>cases hs
 | run c fs=>exact dZ KX hx (λy hy=>kb y hy) λe st' hk=>W7 (ko e st' hk)
def uL:O2->Bool | .run (.scope _) _=>true|_=>false
def scB:O2->Code | .run (.scope c) _=>c|_=>.skip
def Aao(c:Code)(l:Nat):O2:=wD ((findLabel c l).getD .skip) []
theorem gS{S X:Type}{x:O2}{st:St}{f0:Option (LR S X)}{f:S->Option (LR S X)}{y:X}(hx:N9 f0 f=some y)(lab:S->Nat)(H:S->St)(KX:X->Exit->St->Prop)
  (k0:∀ y,f0=some y->GG P Γ (SV Γ (scB x) lab H KX y) (wD (scB x) []) st) (kb:∀ s y,f s=some y->GG P Γ (SV Γ (scB x) lab H KX y) (Aao (scB x) (lab s)) (H s)) (ko:∀ e st',KX y e st'->GG P Γ K (uv e x) st')
  (hs:uL x=true:=by kernel_rfl):GG P Γ K x st:=by
 cases x with
 | out e fs=>cases hs
 | run c fs=>
  cases c with
  | scope c=>
   refine lm lab H f0 f KX (λy hy=>Lu (k0 y hy)) (λs y rest hf hy=>?_) hx λe st' hk=>W7 (ko e st' hk);have:=kb s y hy;unfold Aao scB at this;rw[hf]at this;exact Lu this
  | _=>cases hs
theorem mF{S X:Type}{x:O2}{st:St}{c:Code}{lab:S->Nat}{H:S->St}{KX:X->Exit->St->Prop}{s':S}(h:Le Γ st (H s'))(hx:x = .out (.goto (lab s')) []:=by kernel_rfl)(hf:(findLabel c (lab s')).isSome=true:=by kernel_rfl) :
  GG P Γ (SV Γ c lab H KX (.next s')) x st:=by
 subst hx;exact⟨rfl,hf,h⟩
theorem WV{S X:Type}{x:O2}{st:St}{c:Code}{lab:S->Nat}{H:S->St}{KX:X->Exit->St->Prop}{y:X}{e:Exit}(h:KX y e st)(hx:x = .out e []:=by kernel_rfl)
  (hf:(match e with | .goto l=>(findLabel c l).isNone|_=>true)=true:=by kernel_rfl):GG P Γ (SV Γ c lab H KX (.done y)) x st:=by
 subst hx;refine⟨?_,h⟩;rintro l rfl
 simpa using hf
theorem Su{α:Type}{st:St}(U:α->St->St){a b:α}(h:a=b)(h1:st=U a st:=by kernel_rfl):Le Γ st (U b st):=by subst h;exact iK h1
theorem leB{st:St}(F F':Bool->St->St)(g:Bool)(h1:st=F g st:=by kernel_rfl)(ht:F true st=F' true st:=by kernel_rfl)(hf:F false st=F' false st:=by kernel_rfl):Le Γ st (F' g st):=by
 refine iK (h1.trans ?_)
 cases g<;>assumption
def Own.withF(g:Nat->List AV):Own->Own
 | .arr sz e n _=>.arr sz e n g
 | o=>o
def vq(st:St)(nm:Nat):Option (Nat×(Nat->List AV)):=match Ah st.own nm with|some (.arr _ _ n f)=>some (n,f)|_=>none
def Aa9(nm:Nat)(g:Nat->List AV)(st:St):St:=⟨st.tmps,(match Ah st.own nm with|some o=>Ez st.own nm (o.withF g)|none=>st.own),st.fam⟩
theorem TY{nm sz n:Nat}{e:TypeId}{f g:Nat->List AV}(hp:∀ k,k<n->AVleL (f k) (g k)):∀{l:List (Nat×Own)},Ah l nm=some (.arr sz e n f)->OwnsLe l (Ez l nm (.arr sz e n g))
 | [],h=>by cases h
 | (k,o)::l,h=>by
  simp only[Ah]at h;simp only[Ez]
  cases hb:Nat.beq k nm with
  | true=>
   obtain rfl:=De hb;rw[hb]at h;simp only[Af,Ar]at h;subst h;exact .arr hp (.refl _)
  | false=>
   rw[hb]at h;exact .same (TY hp h)
theorem Ss{st:St}(nm:Nat){n:Nat}{f g:Nat->List AV}(hp:∀ k,k<n->AVleL (f k) (g k))(h:vq st nm=some (n,f):=by kernel_rfl):Le Γ st (Aa9 nm g st):=by
 unfold vq at h;unfold Aa9
 cases ho:Ah _ nm with
 | none=>rw[ho]at h;cases h
 | some o=>
  rw[ho]at h
  cases o with
  | arr sz e n' f'=>
   obtain⟨rfl,rfl⟩:=h;exact Ka (TmpsLe.refl _) (TY hp ho)
  | _=>cases h
def o7(st:St)(nm j:Nat):Option AV:=match Ah st.own nm with|some (.row _ cells)=>cells[j]? | _=>none
def Own.withC(j:Nat)(x:AV):Own->Own
 | .row e cells=>.row e (cells.set j x)
 | o=>o
def Aa8(nm j:Nat)(x:AV)(st:St):St:=⟨st.tmps,(match Ah st.own nm with|some o=>Ez st.own nm (o.withC j x)|none=>st.own),st.fam⟩
theorem kL{a b:AV}(h:AVle a b):∀{l:List AV} {j:Nat},l[j]?=some a->AVleL l (l.set j b)
 | [],j,h=>by simp at h
 | x::l,0,h'=>by
  simp only[List.getElem?_cons_zero,Ar]at h';subst h';exact .cons h (.refl _)
 | x::l,j+1,h'=>by
  exact .cons (.refl _) (kL h h')
theorem TZ{nm:Nat}{e:TypeId}{x y:List AV}(hp:AVleL x y):∀{l:List (Nat×Own)},Ah l nm=some (.row e x)->OwnsLe l (Ez l nm (.row e y))
 | [],h=>by cases h
 | (k,o)::l,h=>by
  simp only[Ah]at h;simp only[Ez]
  cases hb:Nat.beq k nm with
  | true=>
   obtain rfl:=De hb;rw[hb]at h;simp only[Af,Ar]at h;subst h;exact .row hp (.refl _)
  | false=>
   rw[hb]at h;exact .same (TZ hp h)
theorem uN{st:St}(nm j:Nat){a b:AV}(hp:AVle a b)(h:o7 st nm j=some a:=by kernel_rfl):Le Γ st (Aa8 nm j b st):=by
 unfold o7 at h;unfold Aa8
 cases ho:Ah _ nm with
 | none=>rw[ho]at h;cases h
 | some o=>
  rw[ho]at h
  cases o with
  | row e cells=>exact Ka (TmpsLe.refl _) (TZ (kL hp h) ho)
  | _=>cases h
theorem gI(g:Bool):g=true->g=true:=id
theorem Nn(c:Bool):c=true->(c==true)=true:=gT
theorem Kl(c:Bool):c=false->(c==false)=true:=gF
theorem B9{α:Type}(sz:Nat)(e:α->List AV)(d:α)(l:List α):AVle (.slice sz l.length (λi=>(l.map e).getD i []) .exact) (AV.list sz e d l .exact):=gt rfl λi h=>uX l i h
theorem Bi{α:Type}(sz:Nat)(e:α->List AV)(d:α):AVle (.slice 0 0 (λ_=>[]) .exact) (AV.list sz e d [] .exact):=He
theorem Kh{α:Type}(sz nm:Nat)(e:α->List AV)(d:α)(l m:List α):AVle (.slice sz (l.length+m.length) (O4 l.length (λi=>e (l.getD i d)) (λi=>e (m.getD i d))) (.own nm)) (AV.list sz e d (l++m) (.own nm)):=xS
theorem Jj{st st':St}(h:st=st':=by kernel_rfl):Le Γ st st':=h▸Le.refl Γ st
theorem ci{p q:Prop}(a:p)(b:q):p/\q:=⟨a,b⟩
theorem c1{p:Prop}(a:p):p/\True:=⟨a,trivial⟩
end
section
variable {P:Program} {Γ:Il} {K:Exit->St->Prop}
theorem tB{α β:Type}{m:Option α}{f:α->Option β}{r:β}{G:Prop}(h:m.bind f=some r)(k:∀ x,m=some x->f x=some r->G):G:=have⟨x,hx,h⟩:=bind_some h;k x hx h
theorem tC{β:Type}{c:Prop}[Decidable c]{m:Option β}{r:β}{G:Prop}(h:Aw c m=some r)(k:c->m=some r->G):G:=k (Uq h).1 (Uq h).2
@[elab_as_elim] theorem tS{α:Type}{a:α}{M:α->Prop}{b:α}(h:some a=some b)(k:M a):M b:=OI h▸k
theorem tV{x:O2}{st:St}{n:Nat}{H:List (Nat×Own)}(q:RgQ P Γ n H)(live names:List Nat){β:Type}{c:Prop}[Decidable c]{m:Option β}{r:β}(h:Aw c m=some r)
  (k:m=some r->GG P Γ K (uf x) (ug P (Spec P) n [] live names x st []))
  (h1:sC (r9 P (Spec P) n [] live names x st [])=some (c/\True,true):=by kernel_rfl) (hh:(H.all λx=>B3 x.1 names)=true:=by kernel_rfl):GG P Γ K x st:=gR q live names [] [] (c1 (Uq h).1) (k (Uq h).2) h1 hh
theorem tN{S X:Type}{x:O2}{st:St}{H:S->St}{KX:X->Exit->St->Prop}{s':S}{y:LR S X}(h:some (.next s')=some y)(h1:st=H s':=by kernel_rfl)(hx:x = .out .normal []:=by kernel_rfl):GG P Γ (HQ Γ H KX y) x st:=OI h▸gN (Jj h1) hx
theorem tL{S X α:Type}{x:O2}{st:St}{n:Nat}{Hf:List (Nat×Own)}(q:RgQ P Γ n Hf){f:S->Option (LR S X)}{s0:S}{g:X->Option α}{r:α}(h:(Ad f s0).bind g=some r)(live names:List Nat)(H:St->S->St)(KX:St->X->Exit->St->Prop)
  (kb:∀ s y,f s=some y->GG P Γ (HQ Γ (H (Hr live names st)) (KX (Hr live names st)) y) (om x) (H (Hr live names st) s)) (ko:∀ y,g y=some r->∀ e st',KX (Hr live names st) y e st'->GG P Γ K (uv e x) st')
  (h0:Hr live names st=H (Hr live names st) s0:=by kernel_rfl) (hl:bo x=true:=by kernel_rfl) (hh:(Hf.all λx=>B3 x.1 names)=true:=by kernel_rfl):GG P Γ K x st:=tB h λy hy h=>gL q hy live names H KX kb (ko y h) h0 hl hh
theorem tU{x:O2}{st:St}{n:Nat}{H:List (Nat×Own)}(q:RgQ P Γ n H)(live names:List Nat){O:Prop}(hO:O)
  (k:GG P Γ K (uf x) (ug P (Spec P) n [] live names x st []))
  (h:sC (r9 P (Spec P) n [] live names x st [])=some (O,true):=by kernel_rfl) (hh:(H.all λx=>B3 x.1 names)=true:=by kernel_rfl):GG P Γ K x st:=gR q live names [] [] hO k h hh
theorem tT{x:O2}{st:St}{n:Nat}{H:List (Nat×Own)}(q:RgQ P Γ n H)(live names:List Nat)(rs:List Qj){O:Prop}(hO:O)
  (k:GG P Γ K (uf x) (ug P (Spec P) n [] live names x st rs))
  (h:sC (r9 P (Spec P) n [] live names x st rs)=some (O,true):=by kernel_rfl) (hh:(H.all λx=>B3 x.1 names)=true:=by kernel_rfl):GG P Γ K x st:=gR q live names [] rs hO k h hh
theorem tW{x:O2}{st:St}{n:Nat}{H:List (Nat×Own)}(q:RgQ P Γ n H)(live names live2 names2:List Nat)
  (k:GG P Γ K (uf (uf x)) (ug P (Spec P) n [] live2 names2 (uf x) (ug P (Spec P) n [] live names x st []) []))
  (h:sC (r9 P (Spec P) n [] live names x st [])=some (True,true):=by kernel_rfl) (hh:(H.all λx=>B3 x.1 names)=true:=by kernel_rfl)
  (h2:sC (r9 P (Spec P) n [] live2 names2 (uf x) (ug P (Spec P) n [] live names x st []) [])=some (True,true):=by kernel_rfl) (hh2:(H.all λx=>B3 x.1 names2)=true:=by kernel_rfl):GG P Γ K x st:=Ae q live names (Ae q live2 names2 k h2 hh2) h hh
end
def cjO:List Own->Prop->Prop
 | [],p=>p
 | o::l,p=>some o=some o/\cjO l p
theorem nJ:∀(l:List Own) {p:Prop},p->cjO l p
 | [],_,h=>h
 | _::l,_,h=>⟨rfl,nJ l h⟩
theorem Uk(l:List Own):cjO l True:=nJ l trivial
theorem Mn{R:Prop}(g:Bool)(r:R):(g=true->g=true)/\((g=true->g=true)/\(R)):=⟨id,⟨id,r⟩⟩
theorem Xu{R:Prop}(g:Bool)(r:R):(g=true->g=true)/\((g=true->g=true)/\((g=true->g=true)/\(R))):=⟨id,⟨id,⟨id,r⟩⟩⟩
theorem f5{R:Prop}(g:Bool)(r:R):(g=true->g=true)/\((g=true->g=true)/\((g=true->g=true)/\((g=true->g=true)/\(R)))):=⟨id,⟨id,⟨id,⟨id,r⟩⟩⟩⟩
theorem wC{R:Prop}(g:Bool)(r:R):(g=true->g=true)/\((g=true->g=true)/\((g=true->g=true)/\((g=true->g=true)/\((g=true->g=true)/\(R))))):=⟨id,⟨id,⟨id,⟨id,⟨id,r⟩⟩⟩⟩⟩
theorem gI6{R:Prop}(g:Bool)(r:R):(g=true->g=true)/\((g=true->g=true)/\((g=true->g=true)/\((g=true->g=true)/\((g=true->g=true)/\((g=true->g=true)/\(R)))))):=⟨id,⟨id,⟨id,⟨id,⟨id,⟨id,r⟩⟩⟩⟩⟩⟩
theorem gI7{R:Prop}(g:Bool)(r:R):(g=true->g=true)/\((g=true->g=true)/\((g=true->g=true)/\((g=true->g=true)/\((g=true->g=true)/\((g=true->g=true)/\((g=true->g=true)/\(R))))))):=⟨id,⟨id,⟨id,⟨id,⟨id,⟨id,⟨id,r⟩⟩⟩⟩⟩⟩⟩
theorem gI8{R:Prop}(g:Bool)(r:R):(g=true->g=true)/\((g=true->g=true)/\((g=true->g=true)/\((g=true->g=true)/\((g=true->g=true)/\((g=true->g=true)/\((g=true->g=true)/\((g=true->g=true)/\(R)))))))):=⟨id,⟨id,⟨id,⟨id,⟨id,⟨id,⟨id,⟨id,r⟩⟩⟩⟩⟩⟩⟩⟩
theorem gI9{R:Prop}(g:Bool)(r:R):(g=true->g=true)/\((g=true->g=true)/\((g=true->g=true)/\((g=true->g=true)/\((g=true->g=true)/\((g=true->g=true)/\((g=true->g=true)/\((g=true->g=true)/\((g=true->g=true)/\(R))))))))):=⟨id,⟨id,⟨id,⟨id,⟨id,⟨id,⟨id,⟨id,⟨id,r⟩⟩⟩⟩⟩⟩⟩⟩⟩
theorem KO{p0 p1 R:Prop}(a0:p0)(a1:p1)(r:R):p0/\p1/\R:=⟨a0,a1,r⟩
theorem c2{p0 p1:Prop}(a0:p0)(a1:p1):p0/\p1/\True:=⟨a0,a1,trivial⟩
theorem dq{p0 p1 p2 R:Prop}(a0:p0)(a1:p1)(a2:p2)(r:R):p0/\p1/\p2/\R:=⟨a0,a1,a2,r⟩
theorem c3{p0 p1 p2:Prop}(a0:p0)(a1:p1)(a2:p2):p0/\p1/\p2/\True:=⟨a0,a1,a2,trivial⟩
theorem XI{p0 p1 p2 p3 R:Prop}(a0:p0)(a1:p1)(a2:p2)(a3:p3)(r:R):p0/\p1/\p2/\p3/\R:=⟨a0,a1,a2,a3,r⟩
theorem c4{p0 p1 p2 p3:Prop}(a0:p0)(a1:p1)(a2:p2)(a3:p3):p0/\p1/\p2/\p3/\True:=⟨a0,a1,a2,a3,trivial⟩
theorem d5_{p0 p1 p2 p3 p4 R:Prop}(a0:p0)(a1:p1)(a2:p2)(a3:p3)(a4:p4)(r:R):p0/\p1/\p2/\p3/\p4/\R:=⟨a0,a1,a2,a3,a4,r⟩
theorem c5{p0 p1 p2 p3 p4:Prop}(a0:p0)(a1:p1)(a2:p2)(a3:p3)(a4:p4):p0/\p1/\p2/\p3/\p4/\True:=⟨a0,a1,a2,a3,a4,trivial⟩
theorem d6_{p0 p1 p2 p3 p4 p5 R:Prop}(a0:p0)(a1:p1)(a2:p2)(a3:p3)(a4:p4)(a5:p5)(r:R):p0/\p1/\p2/\p3/\p4/\p5/\R:=⟨a0,a1,a2,a3,a4,a5,r⟩
theorem c6{p0 p1 p2 p3 p4 p5:Prop}(a0:p0)(a1:p1)(a2:p2)(a3:p3)(a4:p4)(a5:p5):p0/\p1/\p2/\p3/\p4/\p5/\True:=⟨a0,a1,a2,a3,a4,a5,trivial⟩
theorem c7{p0 p1 p2 p3 p4 p5 p6:Prop}(a0:p0)(a1:p1)(a2:p2)(a3:p3)(a4:p4)(a5:p5)(a6:p6):p0/\p1/\p2/\p3/\p4/\p5/\p6/\True:=⟨a0,a1,a2,a3,a4,a5,a6,trivial⟩
theorem d8_{p0 p1 p2 p3 p4 p5 p6 p7 R:Prop}(a0:p0)(a1:p1)(a2:p2)(a3:p3)(a4:p4)(a5:p5)(a6:p6)(a7:p7)(r:R):p0/\p1/\p2/\p3/\p4/\p5/\p6/\p7/\R:=⟨a0,a1,a2,a3,a4,a5,a6,a7,r⟩
theorem c8{p0 p1 p2 p3 p4 p5 p6 p7:Prop}(a0:p0)(a1:p1)(a2:p2)(a3:p3)(a4:p4)(a5:p5)(a6:p6)(a7:p7):p0/\p1/\p2/\p3/\p4/\p5/\p6/\p7/\True:=⟨a0,a1,a2,a3,a4,a5,a6,a7,trivial⟩
theorem d9_{p0 p1 p2 p3 p4 p5 p6 p7 p8 R:Prop}(a0:p0)(a1:p1)(a2:p2)(a3:p3)(a4:p4)(a5:p5)(a6:p6)(a7:p7)(a8:p8)(r:R):p0/\p1/\p2/\p3/\p4/\p5/\p6/\p7/\p8/\R:=⟨a0,a1,a2,a3,a4,a5,a6,a7,a8,r⟩
theorem c9{p0 p1 p2 p3 p4 p5 p6 p7 p8:Prop}(a0:p0)(a1:p1)(a2:p2)(a3:p3)(a4:p4)(a5:p5)(a6:p6)(a7:p7)(a8:p8):p0/\p1/\p2/\p3/\p4/\p5/\p6/\p7/\p8/\True:=⟨a0,a1,a2,a3,a4,a5,a6,a7,a8,trivial⟩
open Go.Shelf
def eE:Go.Shelf.Ren:=⟨fun|189=>156|125=>168|257=>167|128=>188|129=>189|294=>179|295=>180|296=>181|297=>182|298=>183|299=>184|216=>185|300=>186|301=>187|328=>194|329=>195|330=>196|331=>197|332=>198|215=>199|343=>200|n=>n,fun|28=>22|3=>3|46=>153|0=>0|51=>176|53=>37|4=>4|183=>194|182=>193|131=>197|5=>5|9=>9|218=>203|222=>207|228=>209|229=>97|n=>n,fun|n=>n⟩
theorem kK:Go.Proofs.Lays.n189 Tryz.prog eE:={
 mixed:=by kernel_rfl
 f125:=Tryz.func168.trans (Bx some (by kernel_rfl))
 f128:=Tryz.func188.trans (Bx some (by kernel_rfl))
 f129:=Tryz.func189.trans (Bx some (by kernel_rfl))
 f189:=Tryz.func156.trans (Bx some (by kernel_rfl))
 f215:=Tryz.func199.trans (Bx some (by kernel_rfl))
 f216:=Tryz.func185.trans (Bx some (by kernel_rfl))
 f257:=Tryz.func167.trans (Bx some (by kernel_rfl))
 f294:=Tryz.func179.trans (Bx some (by kernel_rfl))
 f295:=Tryz.func180.trans (Bx some (by kernel_rfl))
 f296:=Tryz.func181.trans (Bx some (by kernel_rfl))
 f297:=Tryz.func182.trans (Bx some (by kernel_rfl))
 f298:=Tryz.func183.trans (Bx some (by kernel_rfl))
 f299:=Tryz.func184.trans (Bx some (by kernel_rfl))
 f300:=Tryz.func186.trans (Bx some (by kernel_rfl))
 f301:=Tryz.func187.trans (Bx some (by kernel_rfl))
 f328:=Tryz.func194.trans (Bx some (by kernel_rfl))
 f329:=Tryz.func195.trans (Bx some (by kernel_rfl))
 f330:=Tryz.func196.trans (Bx some (by kernel_rfl))
 f331:=Tryz.func197.trans (Bx some (by kernel_rfl))
 f332:=Tryz.func198.trans (Bx some (by kernel_rfl))
 f343:=Tryz.func200.trans (Bx some (by kernel_rfl))
 t0:=Tryz.underlying0
 a0:=Tryz.isAgg0
 z0:=Tryz.sizeOf0
 v0:=Tryz.zeroValue0
 t3:=Tryz.underlying3
 a3:=Tryz.isAgg3
 z3:=Tryz.sizeOf3
 v3:=Tryz.zeroValue3
 t4:=Tryz.underlying4
 a4:=Tryz.isAgg4
 z4:=Tryz.sizeOf4
 v4:=Tryz.zeroValue4
 t5:=Tryz.underlying5
 a5:=Tryz.isAgg5
 z5:=Tryz.sizeOf5
 v5:=Tryz.zeroValue5
 t9:=Tryz.underlying9
 a9:=Tryz.isAgg9
 z9:=Tryz.sizeOf9
 v9:=Tryz.zeroValue9
 t28:=Tryz.underlying22
 a28:=Tryz.isAgg22
 z28:=Tryz.sizeOf22
 v28:=Tryz.zeroValue22
 t46:=Tryz.underlying153
 a46:=Tryz.isAgg153
 z46:=Tryz.sizeOf153
 v46:=Tryz.zeroValue153
 t51:=Tryz.underlying176
 a51:=Tryz.isAgg176
 z51:=Tryz.sizeOf176
 v51:=Tryz.zeroValue176
 t53:=Tryz.underlying37
 a53:=Tryz.isAgg37
 z53:=Tryz.sizeOf37
 v53:=Tryz.zeroValue37
 t131:=Tryz.underlying197
 a131:=Tryz.isAgg197
 z131:=Tryz.sizeOf197
 v131:=Tryz.zeroValue197
 t182:=Tryz.underlying193
 a182:=Tryz.isAgg193
 z182:=Tryz.sizeOf193
 v182:=Tryz.zeroValue193
 t183:=Tryz.underlying194
 a183:=Tryz.isAgg194
 z183:=Tryz.sizeOf194
 v183:=Tryz.zeroValue194
 t218:=Tryz.underlying203
 a218:=Tryz.isAgg203
 z218:=Tryz.sizeOf203
 v218:=Tryz.zeroValue203
 t222:=Tryz.underlying207
 a222:=Tryz.isAgg207
 z222:=Tryz.sizeOf207
 v222:=Tryz.zeroValue207
 t228:=Tryz.underlying209
 a228:=Tryz.isAgg209
 z228:=Tryz.sizeOf209
 v228:=Tryz.zeroValue209
 t229:=Tryz.underlying97
 a229:=Tryz.isAgg97
 z229:=Tryz.sizeOf97
 v229:=Tryz.zeroValue97 }
def XN:Go.Shelf.Ren:=⟨fun|15=>155|n=>n,fun|22=>22|3=>3|4=>4|n=>n,fun|n=>n⟩
theorem LC:Go.Proofs.Lays2.n15 Tryz.prog XN:={
 mixed:=by kernel_rfl
 f15:=Tryz.func155.trans (Bx some (by kernel_rfl))
 t3:=Tryz.underlying3
 a3:=Tryz.isAgg3
 z3:=Tryz.sizeOf3
 v3:=Tryz.zeroValue3
 t4:=Tryz.underlying4
 a4:=Tryz.isAgg4
 z4:=Tryz.sizeOf4
 v4:=Tryz.zeroValue4
 t22:=Tryz.underlying22
 a22:=Tryz.isAgg22
 z22:=Tryz.sizeOf22
 v22:=Tryz.zeroValue22
 i3:=by kernel_rfl }
def XO:Go.Shelf.Ren:=⟨fun|20=>157|n=>n,fun|22=>22|3=>3|4=>4|0=>0|n=>n,fun|n=>n⟩
theorem ZK:Go.Proofs.Lays2.n20 Tryz.prog XO:={
 mixed:=by kernel_rfl
 f20:=Tryz.func157.trans (Bx some (by kernel_rfl))
 t0:=Tryz.underlying0
 a0:=Tryz.isAgg0
 z0:=Tryz.sizeOf0
 v0:=Tryz.zeroValue0
 t3:=Tryz.underlying3
 a3:=Tryz.isAgg3
 z3:=Tryz.sizeOf3
 v3:=Tryz.zeroValue3
 t4:=Tryz.underlying4
 a4:=Tryz.isAgg4
 z4:=Tryz.sizeOf4
 v4:=Tryz.zeroValue4
 t22:=Tryz.underlying22
 a22:=Tryz.isAgg22
 z22:=Tryz.sizeOf22
 v22:=Tryz.zeroValue22
 i3:=by kernel_rfl }
open Go.Sort
section
variable {I:Nat->Nat->Prop} {θ:Nat->Option (Nat×Nat)} {w w':World}
theorem ik(I:Nat->Nat->Prop)(θ:Nat->Option (Nat×Nat))(w:World):Lp I (Ah []) θ w:=
 ⟨(λ_ _ _ h=>by cases h),(λ_ _ _ _ h=>by cases h),(λ_ _ _ _ _ h=>(h rfl).elim),(λ_ _ _ _ _ h=>by cases h),(λ_ _ h=>by cases h),(λ_ _ _ h=>by cases h)⟩
theorem qR{own:Nat->Option Own}{zs:Array Value}{x:AV}(h:RepL I own θ w zs.toList [x]):∃ v,zs = #[v]/\Rep I own θ w v x:=by
 obtain⟨l⟩:=zs
 cases h with
 | cons h1 h2=>cases h2;exact⟨_,rfl,h1⟩
theorem GA(hb:Below w.heap.size w w')(hval:∀ b o,I b o->∃ u,w.cell? ⟨b,o,none⟩=some u){N:Nat->Nat->Prop}(hN:∀ b o,N b o->w.heap.size<=b/\∃ u,w'.cell? ⟨b,o,none⟩=some u) :
  Chg (Ah []) θ I w (Ah []) θ (λb o=>I b o\/N b o) w':=
 have hcell:∀ b o,I b o->w'.cell? ⟨b,o,none⟩=w.cell? ⟨b,o,none⟩:=λb o hi=>by
  obtain⟨u,hu⟩:=hval b o hi;exact OZ (a:=⟨b,o,none⟩) (hb.block b (Sq hu))
 {imm:=λ_ _ h=>.inl h,cell:=hcell,le:=λ_ _ h=>(by cases h),rel:=ik _ _ _,
  valid:=λb o hi=>by
   rcases hi with hi|hi
   ·obtain⟨u,hu⟩:=hval b o hi;exact⟨u,(hcell b o hi).trans hu⟩
   ·exact(hN b o hi).2,
  os:=hb.os,tape:=hb.tape,output:=hb.output,drawn:=λh=>h.elim,grow:=hb.size,frame:=λb hlt _=>hb.block b hlt,new:=λ_ _ _ h=>(h rfl).elim,
  immNew:=λb o hi=>by
   rcases hi with hi|hi
   ·exact .inl hi
   ·exact .inr (.inl (hN b o hi).1) }
end
theorem IV{w W:World}{g n:Nat}{os:Array Obj}{d:Array Int}(hb:Below w.heap.size w W)(hg:w.heap.size<=g):Below w.heap.size w (grow (putRow (Value.int .i64) (Sort.ahead W n) g 0 d) os):=by
 have k:=grownBy_sortedI (w:=W) (g:=g) (n:=n) (os:=os) d;refine hb.trans ⟨k.os,k.tape,k.output,k.size,λb hlt=>k.block b (Nat.lt_of_lt_of_le hlt hb.size) (λe=>?_)⟩;have:=OI e;omega
def bR(w W:World)(g cap n:Nat)(zs:List Int):Prop:=
 Below w.heap.size w W/\w.heap.size<=g/\∃ cur,W.heap[g]?=some (.cells cur 3 (0,0))/\n<=cap/\cap<=maxLen/\cur.size=cap/\cur.toList.take zs.length=zs.map (Value.int .i64)/\zs.length=n
theorem kZ{w W:World}{v:Value}{n:Nat}{zs:List Int}(h:W.ownsRow w.heap.size 3 1 v n (zs.map (Value.int .i64)))(hne:v≠.slice none 0 0)(hb:Below w.heap.size w W):∃ g cap,v = .slice (some ⟨g,0,none⟩) n cap/\bR w W g cap n zs:=by
 have hl:zs.length=n:=by have:=h.1;simpa using this
 rcases h.2 with⟨rfl,_⟩|⟨g,cap,cur,rfl,hg,hcur,hcap,hmax,hsz,ht⟩
 ·exact(hne rfl).elim
 ·rw[Y5]at hsz ht;exact⟨g,cap,rfl,hb,hg,cur,hcur,hcap,hmax,hsz,by rw[hl];exact ht,hl⟩
theorem ov(ad:Addr)(c:Nat)(w:World):Calls Tryz.prog 155 #[.slice (some ad) 0 c] w λe W=>∃ g cap,e = .returned (.slice (some ⟨g,0,none⟩) 0 cap)/\bR w W g cap 0 []:=
 (Any.slices_Clone_int_zero LC ad c w).mono λe W ⟨v,he,hown,hne,hb⟩=>by
  obtain⟨g,cap,rfl,h⟩:=kZ (zs:=[]) hown hne hb;exact⟨g,cap,he,h⟩
theorem tm(b off n c:Nat)(zs:List Int)(w:World)(hz:zs.length=n)(hbig:n<=17592186044416)(hc:∀ j,j<n->w.cell? ⟨b,off+j,none⟩=some (.int .i64 (zs.getD j 0))) :
  Calls Tryz.prog 155 #[.slice (some ⟨b,off,none⟩) n c] w λe W=>∃ g cap,e = .returned (.slice (some ⟨g,0,none⟩) n cap)/\bR w W g cap n zs:=
 (Any.slices_Clone_int LC b off n c zs w (by omega) (by omega) (λj hj=>hc j (by omega))).mono λe W ⟨v,he,hown,hne,hb⟩=>by
  rw[show zs.take n=zs by rw[<- hz];exact PB ..]at hown;obtain⟨g,cap,rfl,h⟩:=kZ hown hne hb;exact⟨g,cap,he,h⟩
theorem xd{w W:World}{g cap n:Nat}{zs:List Int}(h:bR w W g cap n zs)(hbig:n<=17592186044416):Calls Tryz.prog 156 #[.slice (some ⟨g,0,none⟩) n cap] W λe W2=>e = .returned (.tuple #[])/\bR w W2 g cap n (zs.mergeSort λx y=>decide (x<=y)):=by
 obtain⟨hb,hg,cur,hcur,hcap,hmax,hsz,ht,rfl⟩:=h;refine(Any.slices_Sort_int kK g 0 cap zs W (holds_of_blockI hcur ht) (JF hcur) (by omega)).mono λe W2 ⟨he,q,os,hW⟩=>⟨he,?_⟩;subst hW;have hl:(zs.mergeSort λx y=>decide (x<=y)).length=zs.length:=List.length_mergeSort ..;have b2:=IV (n:=q) (os:=os) (d:=(zs.mergeSort λx y=>decide (x<=y)).toArray) hb hg;exact⟨b2,hg,_,heap_sortedI _ hcur,hcap,hmax,by simp[putCells,hsz],take_putCellsI cur _ (by omega),hl⟩
theorem lr{w W:World}{g cap n:Nat}{zs:List Int}(h:bR w W g cap n zs)(hbig:n<=17592186044416):Calls Tryz.prog 157 #[.slice (some ⟨g,0,none⟩) n cap] W λe W2=>e = .returned (.slice (some ⟨g,0,none⟩) (Lib.compact zs).length cap)/\bR w W2 g cap (Lib.compact zs).length (Lib.compact zs):=by
 obtain⟨hb,hg,cur,hcur,hcap,hmax,hsz,ht,rfl⟩:=h;refine(Any.slices_Compact_int ZK g 0 cap zs W (holds_of_blockI hcur ht) (by omega) hcap).mono λe W2 ⟨he,q,hW⟩=>⟨he,?_⟩;subst hW;have hcl:=Lib.compact_length_le zs
 generalize Lib.compact zs=cs at hcl ⊢
 generalize hts:cs++List.replicate (zs.length-cs.length) (0:Int)=ts
 have htl:ts.length=zs.length:=by rw[<- hts,Gq,K3];omega
 have b2:=IV (n:=q) (os:=#[]) (d:=ts.toArray) hb hg;have h2:=heap_sortedI (n:=q) (os:=#[]) ts.toArray hcur;rw[grow_empty]at b2 h2;have h3:=take_putCellsI cur ts (by omega);refine⟨b2,hg,_,h2,by omega,hmax,by simp[putCells,hsz],?_,rfl⟩;have:=Bx (List.take cs.length) h3;rw[List.take_take,Nat.min_eq_left (by omega),<- List.map_take,<- hts,List.take_left' rfl]at this;rw[<- hts];exact this
def sH(w w':World)(v:Value)(r:List Int):Prop:=
 (v = .slice none 0 0/\r=[])\/∃ g cap,v = .slice (some ⟨g,0,none⟩) r.length cap/\bR w w' g cap r.length r
set_option maxHeartbeats 4000000 in
set_option maxRecDepth 100000 in
theorem qp(a:Option Addr)(n c:Nat)(zs:List Int)(w:World)(hz:zs.length=n)(hn:a=none->n=0)(hbig:n<=17592186044416)
  (hc:0<n->∃ b off,a=some ⟨b,off,none⟩/\∀ j,j<n->w.cell? ⟨b,off+j,none⟩=some (.int .i64 (zs.getD j 0))) :
  Calls Tryz.prog 116 #[.slice a n c] w λe w'=>∃ v,e = .returned v/\Below w.heap.size w w'/\sH w w' v (Lib.compact (zs.mergeSort λx y=>decide (x<=y))):=by
 cases a with
 | none=>
  obtain rfl:=hn rfl;obtain rfl:zs=[]:=zzL115.1 hz
  have hr:Lib.compact (([]:List Int).mergeSort λx y=>decide (x<=y))=[]:=by simp[Lib.compact,Lib.compactUpTo]
  rw[hr];have h1:Calls Tryz.prog 155 #[.slice none 0 c] w λe w'=>e = .returned (.slice none 0 0)/\w'=w:=Any.slices_Clone_int_nil LC 0 c w;have h2:Calls Tryz.prog 156 #[.slice none 0 0] w λe w'=>e = .returned (.tuple #[])/\w'=w:=Any.slices_Sort_int_none kK none 0 w;have h3:Calls Tryz.prog 157 #[.slice none 0 0] w λe w'=>e = .returned (.slice none 0 0)/\w'=w:=Any.slices_Compact_int_empty ZK none 0 w
  go_enter Tryz.func116,Tryz.ntmps116
  go_wp2_with (first
   | (go_at_call 155;refine h1.mono ?_;rintro e W ⟨rfl,rfl⟩)
   | (go_at_call 156;refine h2.mono ?_;rintro e W ⟨rfl,rfl⟩)
   | (go_at_call 157;refine h3.mono ?_;rintro e W ⟨rfl,rfl⟩))
  go_ret
  exact⟨_,rfl,Below.refl _ _,.inl ⟨rfl,rfl⟩⟩
 | some ad=>
  have h1:Calls Tryz.prog 155 #[.slice (some ad) n c] w λe W=>∃ g cap,e = .returned (.slice (some ⟨g,0,none⟩) n cap)/\bR w W g cap n zs:=by
   by_cases h0:n=0
   ·subst h0;obtain rfl:zs=[]:=zzL115.1 hz;exact ov ad c w
   ·obtain⟨b,off,hab,hcell⟩:=hc (by omega);obtain rfl:=OI hab;exact tm b off n c zs w hz hbig hcell
  go_enter Tryz.func116,Tryz.ntmps116
  go_wp2_with (first
   | (go_at_call 155;refine h1.mono ?_;rintro e W ⟨g,cap,rfl,hO⟩)
   | (go_at_call 156;refine(xd hO hbig).mono ?_;rintro e W2 ⟨rfl,hO2⟩)
   | (go_at_call 157;refine(lr hO2 hbig).mono ?_;rintro e W3 ⟨rfl,hO3⟩))
  go_ret
  exact⟨_,rfl,hO3.1,.inr ⟨_,_,rfl,hO3⟩⟩
def iE(x:Int):List Int->List Int
 | []=>[x]
 | y::l=>if x<=y then x::y::l else y::iE x l
def pP:List Int->List Int
 | []=>[]
 | x::l=>iE x (pP l)
theorem insI_perm(x:Int):∀ l,(iE x l).Perm (x::l)
 | []=>.refl _
 | y::l=>by
  unfold iE
  split
  ·exact .refl _
  ·exact((insI_perm x l).cons y).trans (.swap x y l)
theorem kH{x:Int}:∀{l:List Int},l.Pairwise (·<=·)->(iE x l).Pairwise (·<=·)
 | [],_=>by simp[iE]
 | y::l,h=>by
  have h':=zzL94.1 h;unfold iE
  split
  ·rename_i hxy
   exact zzL94.2 ⟨λz hz=>by
    rcases zzL28.1 hz with rfl|hz
    ·exact hxy
    ·exact Int.le_trans hxy (h'.1 z hz),h⟩
  ·rename_i hxy
   refine zzL94.2 ⟨λz hz=>?_,kH h'.2⟩;rcases zzL28.1 ((insI_perm x l).mem_iff.1 hz) with rfl|hz
   ·omega
   ·exact h'.1 z hz
theorem ZJ:∀ l,(pP l).Perm l
 | []=>.refl _
 | x::l=>(insI_perm x _).trans ((ZJ l).cons x)
theorem kJ:∀ l,(pP l).Pairwise (·<=·)
 | []=>.nil
 | x::l=>kH (kJ l)
theorem kI(l:List Int):pP l=l.mergeSort λx y=>decide (x<=y):=by
 refine List.Perm.eq_of_pairwise (le:=(·<=·)) (λa b _ _ h1 h2=>Int.le_antisymm h1 h2) (kJ l) ?_ ((ZJ l).trans (List.mergeSort_perm l _).symm);have:=List.pairwise_mergeSort (le:=λ(x y:Int)=>decide (x<=y)) (λa b c h1 h2=>by simp at *;omega) (λa b=>by simp;omega) l
 exact this.imp λh=>by simpa using h
def KH(l:List Int):Option (List Int):=Aw (l.length<=17592186044416) (some (Lib.compact (pP l)))
theorem jH(l r:List Int)(h:KH l=some r):Spec Tryz.prog 116 [AV.list 1 (λx=>[.int .i64 x]) (0:Int) l .none] [] (AV.list 1 (λx=>[.int .i64 x]) (0:Int) r .none) []:=by
 obtain⟨hlen,h⟩:=Uq h;rw[kI]at h;obtain rfl:=OI h;refine⟨enters_of Tryz.func116 (by kernel_rfl) rfl,λw I θ zs hargs _ hval _=>?_⟩;obtain⟨v,rfl,hv⟩:=qR hargs;obtain⟨_,a,cap,us,rfl,hcap,hmax,hz,hnn,h1,hl,hr⟩:=hv.slice_val.slice_inv
 have hint:∀ i,i<l.length->us i = .int .i64 (l.getD i 0):=λi hi=>by
  have:=hr i 0 hi (by omega);rw[Y5,Tg]at this;have h2:RepV I w (us i) (.int .i64 (l.getD i 0)):=this;exact Rep.int_inv (own:=Ah []) (θ:=θ) (.val _ _ h2)
 refine(qp a l.length cap l w rfl (λha=>by have:=hnn ha;omega) hlen (λhp=>?_)).mono λe w' ⟨v,he,hb,hout⟩=>?_
 ·obtain⟨b,rfl,hs,_,hcell⟩:=hz hp;obtain⟨blk,off,spot⟩:=b;simp only at hs hcell;subst hs;exact⟨blk,off,rfl,λj hj=>by rw[hcell j (by omega),hint j hj]⟩
 ·generalize Lib.compact (l.mergeSort λx y=>decide (x<=y))=r at hout ⊢
  rcases hout with⟨rfl,rfl⟩|⟨g,cap',rfl,_,hg,cur,hcur,hc1,hc2,hc3,htake,_⟩
  ·exact⟨_,_,θ,he,GA hb hval (N:=λ_ _=>False) (λ_ _ h=>h.elim),.val _ _ (.slice none 0 0 1 _ (λ_=>undef) (zzL8 _) (L3 _) (λh=>by cases h) (λ_=>rfl) (λj hj=>by simp at hj) (λi hi=>by cases hi) (λi c hi=>by cases hi))⟩
  ·have hcell:∀ j,j<r.length->w'.cell? ⟨g,j,none⟩=some (.int .i64 (r.getD j 0)):=λj hj=>by
    rw[Ro _ _ _ cur 3 (0,0) hcur]
    have h2:(cur.toList.take r.length)[j]?=(r.map (Value.int .i64))[j]?:=by rw[htake]
    rw[List.getElem?_take_of_lt hj,Array.getElem?_toList]at h2;rw[h2];simp[List.getD,hj]
   refine⟨_,_,θ,he,GA hb hval (N:=λb o=>b=g/\o<r.length) (λb o ⟨hbg,ho⟩=>⟨by omega,by subst hbg;exact⟨_,hcell o ho⟩⟩),.val _ _ (.slice (some ⟨g,0,none⟩) r.length cap' 1 _ (λj=>.int .i64 (r.getD j 0)) hc1 hc2 (λ_=>⟨⟨g,0,none⟩,rfl,rfl,λj hj=>.inr ⟨rfl,by simpa using hj⟩,λj hj=>by rw[H0];exact hcell j (by omega)⟩) (λh=>by cases h) (λ_ _=>rfl) (λ_ _=>rfl) (λi c hi hc=>?_))⟩
   obtain rfl:c=0:=by omega
   rw[Y5,Tg];exact .int _ _
abbrev Am:=List Int
abbrev Ey:=List (List Int)
def O0:=[(30000,30000),(30001,30001),(37101,37101),(35002,35002),(35100,35100),(9100001,9100001)]
def Et:=[30000,30001,35002,35100,37101,9100001]
def Ly:=[5,30000,30001,35002,35100,37101]
def Rq:=[4,30000,30001,35002,35100,37101,9100001]
def Hb:=[30000,35000,37001]
def IG:=[(30000,30000),(30001,30001),(37101,37101),(35002,35002),(35100,35100)]
def Jc:=[30000,37006,9100005]
def Vi:=[3,30000,30001,35002,35100,37101,9100001]
def Lk:=[0,1,5,6,7,9,10]
def Y8:=[31,30000,30001,35002,35100,37101,9100001]
def Ty:=[(30000,30000),(37006,37006),(9100005,9100005)]
def D4:=[30000,37006]
def V4:=[4,6,30000,30001,35002,35100,37101,9100001]
def M0:=[3,30000,37006,9100005]
def Xo:=[(30000,30000),(37001,37001),(35000,35000)]
def Xp:=[13,30000,30001,35002,35100,37101,9100001]
def Kb:=[2,5,6,25,36007]
def Eu:=[1,5,5003]
def Pd:=[6,30000,37006,9100005]
def EO:=[12,30000,30001,35002,35100,37101,9100001]
def KJ:=[3,34,30000,30001,35002,35100,37101,9100001]
def Xq:=[30000,30001,35002,35100,37101]
def Fe:=[1,3,4]
def Zv:=[(30000,30000),(37006,37006)]
def Cn:=[2,3]
def V5:=[26,30000,35000,37001]
def Kc:=[2,13,21]
def Rp:=[8,30000,37006]
def Ik:=[0,3,4]
def KK:=[30000,30001,37101,35002,35100]
def L4:=[1,3,4,5]
def Ng:=[1,7,8,9]
def Zw:=[30000,37006,13000005]
def Ew:=[0,1]
def KL:=[3,5,30000,37006,9100005]
def KM:=[0,4,6,21,22,30,31,32]
def Th:=[1,3,4,5,6]
def GZ:=[2,5,6,7,26,27,28]
def V6:=[2,7,77,70077]
def L5:=[0,1,5]
def wR:=[(30000,30000),(30001,30001),(37101,37101),(35002,35002),(35100,35100),(9100001,9100001),(6004,20000)]
def wS:=[(30000,30000),(30001,30001),(37101,37101),(35002,35002),(35100,35100),(9100001,9100001),(25,20000)]
def wT:=[(30000,30000),(30001,30001),(37101,37101),(35002,35002),(35100,35100),(9100001,9100001),(20,20000)]
def Lj:=[37,75]
def Nh:=[1,5003]
def PG:=[5,30000,37006,9100005]
def kz:=[0,2,3,8,9,16,17,18,54,55,56,62,63,64]
def K5:=[3,14]
def k4:=[0,2,3,5,16,17,18,24,25,26,31,32,33]
def Tz:=[1,6,5003]
def HA:=[2,5,6,7,8,9]
def Zx:=[1,2,7,5005]
def wU:=[(34,30000),(30000,30001),(37001,37101),(32,35002),(35000,35100),(37,9100001)]
def k5:=[30000,30001,37101,35002,35100,9100001]
def WO:=[1,2,4,5,6,7,8,10]
def bI:=[3,9,30000,37006,9100005]
def Xr:=[0,3,4,34]
def EP:=[2,5,6,7,8]
def fp:=[0,2,3,16,17,18,24,25,26]
def fq:=[0,2,3,16,17,18,54,55,56]
def Vd:=[2,33,59]
def rh:=[3,4,46,52,60046000,60046001,60052000,60052001]
def HB:=[0,1,3,9,10]
def ri:=[(30000,30000),(37006,37006),(13000005,9200005)]
def rj:=[(30000,30000),(37006,37006),(9300005,9200005)]
def V7:=[10,70010]
def M1:=[1,3]
def WP:=[1,2,7,5005,5008]
def rl:=[33,30000,30001,35002,35100,37101,9100001]
def rm:=[34,30000,30001,35002,35100,37101,9100001]
def PH:=[1,5,7,11,12]
def WQ:=[2,35,37,46,51]
def Ov:=[0,3]
def Ow:=[4,5]
def PI:=[1,7,8,9,10]
def Pe:=[1,2]
def bJ:=[3,31,30000,37006]
def wV:=[(30000,30000),(37001,37001),(35000,35000),(6008,20000)]
def bK:=[1,5,7,11,12,13]
def ft:=[1,2,5,6,7,8,9,10]
def PJ:=[1,6,7,8,9]
def k6:=[3,4,11,12,13,18,19,20]
def k7:=[0,5,12,13,14,18,19,20]
def k8:=[3,5,14,15,16,21,22,23]
def wW:=[(30000,30000),(37001,37001),(35000,35000),(9,20000)]
def Xs:=[2,5,6]
def Xt:=[1,4,7]
def k9:=[6,7,30000,37006,9100005]
def lB:=[1,5,7,11,12,13,14,15]
def WS:=[1,7,8,9,16]
def wX:=[12,14,46,52,60046000,60046001,60052000,60052001]
def EQ:=[0,1,10]
def HC:=[0,21,22]
def fu:=[0,1,10,11,28,29]
def Zy:=[0,1,2]
def bL:=[31,30000,37006]
def R4:=[1,4]
def KN:=[1,3,5,6]
def lD:=[3,14,15,16,33,34,35]
def bM:=[1,2,5,6,7,8]
def IB:=[0,37,38,39]
def VO:=[0,2,3,16,17,18]
def VP:=[0,1,9,21,22,23]
def EM:=[33,59,103]
def rF:=[3,12,30000,30001,35002,35100,37101,9100001]
def rG:=[(46,30000),(60046001,37001),(60046000,35000)]
def rH:=[(52,30000),(60052001,37001),(60052000,35000)]
def rI:=[6004,30000,30001,35002,35100,37101,9100001]
def jK:=[0,4,6,21,22,30,31,32,33]
def jL:=[0,4,6,21,22,30,31,32,40]
def NE:=[0,5,8,9,10]
def jM:=[0,4,6,8,21,22,30,31,32]
def rJ:=[25,30000,30001,35002,35100,37101,9100001]
def rK:=[(30001,30000),(37101,37001),(35100,35000)]
def rL:=[20,30000,30001,35002,35100,37101,9100001]
def cW:=[0,1,2,6,14,15,16]
def NF:=[1,5,72,5003]
def VQ:=[2,3,7,8,9,10]
def VR:=[1,2,6,8,9,10]
def rM:=[(30000,30000),(37006,37006),(8,9200005)]
def cX:=[2,3,6,7,8,36,37]
def cY:=[1,3,4,5,9,10,11]
def IC:=[1,3,7,17]
def Wo:=[1,2,5]
def NG:=[0,16,17,18]
def VS:=[0,2,4,7,8,9]
def NH:=[1,2,4,5,6]
def NI:=[1,5,7,5003]
def jN:=[3,4,46,60046000,60046001]
def cZ:=[2,5,6,7,8,9,10]
def jO:=[6,8,30000,37006,9100005]
def VT:=[3,30000,37006]
def VU:=[0,1,7,10,11]
def ca:=[2,4,5,18,19,20]
def cd:=[0,2,4,11,12,13]
def ce:=[1,3,4,5,6,7,8]
def Y7:=[1,2,3]
def VV:=[(30000,30000)]
def So:=[8,9]
def rN:=[4,8,32,34,37,30000,35000,37001]
def cf:=[2,3,4,7,9,60]
def VW:=[3,11,12,13]
def VX:=[0,12,13,14]
def VY:=[6,18,19,25]
def VZ:=[3,14,15,16]
def WA:=[0,2,4,7,8]
def WB:=[2,3,7,8,9]
def WC:=[1,3,5,6,7]
def WD:=[1,3,5,6,8]
def WE:=[1,3,4,5,9]
def jP:=[1,5,7,11,12,13,14]
def NJ:=[2,5,6,7]
def NK:=[18,19,20]
def cg:=[0,6,14,15,16]
def cj:=[0,6,39,40,41]
def jQ:=[1,2,4,5,6,7,8,9]
def Wp:=[2,16]
def rO:=[2,5,6,7,9,10,26,27,28,44]
def ID:=[1,4,22]
def rP:=[4,8,32,34,30000,35000,37001]
def IE:=[1,3,17]
def WF:=[5,7,12,13]
def jR:=[30000,37006,9300005]
def Vc:=[3,4]
def NL:=[2,35,37]
def jS:=[0,1,5,14,15,16]
def jT:=[1,2,4,5,6,7,8]
def IF:=[1,2,6]
def rQ:=[2,5,6,7,9,10,26,27,28]
def Wq:=[0,4]
def ck:=[3,10,11,12]
def Wr:=[2,5]
def cl:=[(6004,20000)]
def Ws:=[7,8]
def cm:=[0,15,16,17]
def WG:=[0,1,2,3]
def cn:=[0,21,22,23]
def WH:=[0,2,4,5]
def WI:=[1,2,5005]
def WJ:=[2,3,7,8]
def cp:=[2,3,4,7,9]
def rR:=[3,4,52,60052000,60052001]
def rS:=[2,5,6,7,26,27,28,29]
def EN:=[2,33]
def WK:=[5,18,19]
def WL:=[6,18,19]
def jU:=[1,2,15,16,17]
def rT:=[2,5,6,7,9,26,27,28]
def jV:=[0,1,32,33,34]
def rU:=[10,30000,37006,9100005]
def jW:=[3,5,14,15,16]
def rV:=[6008,30000,35000,37001]
def rW:=[4,8,30000,35000,37001]
def rX:=[1,20,60020000,60020001]
def NM:=[1,3,5]
def jX:=[1,3,5,6,7,8]
def cq:=[2,5,6,25]
def rY:=[2,5,6,7,8,9,10,60]
def rZ:=[4,30000,37006,9100005]
def cr:=[0,1,9,10]
def jY:=[0,3,4,14,15]
def jZ:=[0,4,6,21,22]
def cu:=[0,2,7,8]
def ja:=[(34001,34001)]
def NN:=[18,19]
def re:=[8,30000,35000,37001]
def cw:=[1,3,4,6]
def rf:=[2,7,77,60077,70077]
def NO:=[15,18]
def rg:=[9,30000,35000,37001]
def jb:=[1,23,24,25]
def jd:=[1,2,5,6,7]
def WM:=[0,2,7]
def je:=[3,38,39,40]
def jf:=[(6002,20000)]
def jg:=[0,2,4,5,6]
def jh:=[(5003,20000)]
def ji:=[2,35,37,46]
def WN:=[2,5,7]
def jj:=[0,1,12,13]
def jk:=[0,6,21,22]
def jl:=[(30,20000)]
def jm:=[(20000,9)]
def jn:=[(5,30000)]
set_option maxRecDepth 100000
set_option maxHeartbeats 2000000
def Ax(x:Int):List AV:=[(.int .i64 x)]
def Lg(x:Am):List AV:=[(AV.list 1 Ax 0 x .none)]
structure Ff where
 Bits:Int
 Dst:Int
 From:Am
 Args:Am
 deriving Inhabited,DecidableEq
def W0(x:Ff):List AV:=[(.int .i64 x.Bits),(.int .i64 x.Dst),(AV.list 1 Ax 0 x.From .none),(AV.list 1 Ax 0 x.Args .none)]
def xi(x:List Ff):List AV:=[(AV.list 4 W0 default x .none)]
def Dc(x:Int):List AV:=[(.int .u64 x)]
structure C5 where
 Kind:Int
 Bits:Int
 Lanes:Int
 Dst:Int
 Args:Am
 Imm:Int
 deriving Inhabited,DecidableEq
def PX(x:C5):List AV:=[(.int .i64 x.Kind),(.int .i64 x.Bits),(.int .i64 x.Lanes),(.int .i64 x.Dst),(AV.list 1 Ax 0 x.Args .none),(.int .u64 x.Imm)]
def Aai(x:List C5):List AV:=[(AV.list 6 PX default x .none)]
structure L6 where
 Kind:Int
 Arg:Int
 To:Am
 deriving Inhabited,DecidableEq
def du(x:L6):List AV:=[(.int .i64 x.Kind),(.int .i64 x.Arg),(AV.list 1 Ax 0 x.To .none)]
structure Ai where
 Phis:List Ff
 Ops:List C5
 End:L6
 deriving Inhabited,DecidableEq
def Jx(x:Ai):List AV:=[(AV.list 4 W0 default x.Phis .none),(AV.list 6 PX default x.Ops .none),(.int .i64 x.End.Kind),(.int .i64 x.End.Arg),(AV.list 1 Ax 0 x.End.To .none)]
def pD(x:List Ai):List AV:=[(AV.list 5 Jx default x .none)]
structure TFunc where
 Params:Am
 Ret:Int
 Blocks:List Ai
 deriving Inhabited,DecidableEq
def eTFunc(x:TFunc):List AV:=[(AV.list 1 Ax 0 x.Params .none),(.int .i64 x.Ret),(AV.list 5 Jx default x.Blocks .none)]
def D8(x:Am):List AV:=[(AV.list 1 Dc 0 x .none)]
def Ur(x:Int):List AV:=[(.int .u8 x)]
def Ab0(x:Am):List AV:=[(AV.list 1 Ur 0 x .none)]
structure TCase where
 Args:Am
 Mem:Am
 Fuel:Int
 deriving Inhabited,DecidableEq
def eTCase(x:TCase):List AV:=[(AV.list 1 Dc 0 x.Args .none),(AV.list 1 Ur 0 x.Mem .none),(.int .i64 x.Fuel)]
def eB(x:Bool):List AV:=[(.bool x)]
structure Ac where
 Write:Bool
 At:Int
 Byte:Int
 deriving Inhabited,DecidableEq
def E2(x:Ac):List AV:=[(.bool x.Write),(.int .u64 x.At),(.int .u8 x.Byte)]
structure xC where
 bytes:Am
 trace:List Ac
 deriving Inhabited,DecidableEq
structure PR where
 Code:Int
 Value:Int
 Steps:Int
 deriving Inhabited,DecidableEq
def GB(x:PR):List AV:=[(.int .i64 x.Code),(.int .u64 x.Value),(.int .i64 x.Steps)]
abbrev Hs:=(Int×Int)
def Bs(x:Hs):List AV:=[(.int .i64 x.1),(.int .i64 x.2)]
structure L7 where
 block:Int
 at_:Int
 deriving Inhabited,DecidableEq
def QW(x:L7):List AV:=[(.int .i64 x.block),(.int .i64 x.at_)]
structure Bj where
 v:Int
 shape:Hs
 place:L7
 deriving Inhabited,DecidableEq
def Ol(x:Bj):List AV:=[(.int .i64 x.v),(.int .i64 x.shape.1),(.int .i64 x.shape.2),(.int .i64 x.place.block),(.int .i64 x.place.at_)]
structure TGraph where
 Succ:Ey
 Pred:Ey
 deriving Inhabited,DecidableEq
def X4(x:TGraph):List AV:=[(AV.list 1 Lg [] x.Succ .none),(AV.list 1 Lg [] x.Pred .none)]
structure A2 where
 shape:Hs
 place:L7
 deriving Inhabited,DecidableEq
def kC(x:A2):List AV:=[(.int .i64 x.shape.1),(.int .i64 x.shape.2),(.int .i64 x.place.block),(.int .i64 x.place.at_)]
structure Ca where
 V:Int
 Block:Int
 At:Int
 Shape:Hs
 deriving Inhabited,DecidableEq
def P1(x:Ca):List AV:=[(.int .i64 x.V),(.int .i64 x.Block),(.int .i64 x.At),(.int .i64 x.Shape.1),(.int .i64 x.Shape.2)]
structure C0 where
 V:Int
 Block:Int
 At:Int
 Shape:Hs
 deriving Inhabited,DecidableEq
def O5(x:C0):List AV:=[(.int .i64 x.V),(.int .i64 x.Block),(.int .i64 x.At),(.int .i64 x.Shape.1),(.int .i64 x.Shape.2)]
def uD(x:List Bool):List AV:=[(AV.list 1 eB false x .none)]
abbrev yT1:=(Int×AV)
def WX:List yT1:=[((0:Int),(.clo 48 [] [])),((13:Int),(.clo 49 [(.ptr 30000 0)] [])),((14:Int),(.clo 78 [] [(.rpo [(.clo 51 [] [])]),(.rpo [(.ptr 30000 0)])])),((15:Int),(.clo 78 [] [(.rpo [(.clo 52 [] [])]),(.rpo [(.ptr 30000 0)])])),((16:Int),(.clo 53 [(.ptr 30000 0)] [])),((17:Int),(.clo 54 [(.ptr 30000 0)] [])),((18:Int),(.clo 82 [] [(.rpo [(.ptr 30000 0)]),(.rpo [(.clo 53 [(.ptr 30000 0)] [])])])),((19:Int),(.clo 82 [] [(.rpo [(.ptr 30000 0)]),(.rpo [(.clo 54 [(.ptr 30000 0)] [])])])),((20:Int),(.clo 82 [] [(.rpo [(.ptr 30000 0)]),(.rpo [(.clo 83 [] [(.rpo [(.ptr 30000 0)]),(.rpo [(.int .i64 (4:Int))])])])])),((21:Int),(.clo 57 [(.ptr 30000 0)] [])),((22:Int),(.clo 58 [(.ptr 30000 0)] [])),((1:Int),(.clo 83 [] [(.rpo [(.ptr 30000 0)]),(.rpo [(.int .i64 (1:Int))])])),((2:Int),(.clo 83 [] [(.rpo [(.ptr 30000 0)]),(.rpo [(.int .i64 (2:Int))])])),((3:Int),(.clo 83 [] [(.rpo [(.ptr 30000 0)]),(.rpo [(.int .i64 (3:Int))])])),((4:Int),(.clo 83 [] [(.rpo [(.ptr 30000 0)]),(.rpo [(.int .i64 (4:Int))])])),((5:Int),(.clo 83 [] [(.rpo [(.ptr 30000 0)]),(.rpo [(.int .i64 (5:Int))])])),((6:Int),(.clo 83 [] [(.rpo [(.ptr 30000 0)]),(.rpo [(.int .i64 (6:Int))])])),((7:Int),(.clo 83 [] [(.rpo [(.ptr 30000 0)]),(.rpo [(.int .i64 (7:Int))])])),((8:Int),(.clo 83 [] [(.rpo [(.ptr 30000 0)]),(.rpo [(.int .i64 (8:Int))])])),((9:Int),(.clo 83 [] [(.rpo [(.ptr 30000 0)]),(.rpo [(.int .i64 (9:Int))])])),((10:Int),(.clo 83 [] [(.rpo [(.ptr 30000 0)]),(.rpo [(.int .i64 (10:Int))])])),((11:Int),(.clo 83 [] [(.rpo [(.ptr 30000 0)]),(.rpo [(.int .i64 (11:Int))])])),((12:Int),(.clo 83 [] [(.rpo [(.ptr 30000 0)]),(.rpo [(.int .i64 (12:Int))])]))]
theorem mix:Tryz.prog.follows .mixedOrders=true:=by kernel_rfl
abbrev sP:=Spec Tryz.prog
abbrev Vf:=(Nat×Own)
theorem sG {f : FuncId} {fn : Func} {args : List AV} {H H' : List Vf} {res : AV} (hf : Tryz.prog.funcs[f]? = some fn) (k : ∀ Γ : Il, RgQ Tryz.prog Γ fn.ntmps H → GG Tryz.prog Γ (fK Tryz.prog Γ fn.results.toList H res H') (wD (bc fn) []) (LB args H)) (hb : fn.body.isSome = true := by kernel_rfl) (hname : (fn.name == "runtime.NumGoroutine") = false := by kernel_rfl) (hlen : Nat.ble args.length fn.ntmps = true := by kernel_rfl) (hpl : UC H = true := by kernel_rfl) : sP f args H res H' := MG mix hf k hb hname hlen hpl
def Z1:=λ(za:List (List (Int))) zb zc (zd:Am) zf zg=>([(30000,.row 85 [(.ptr 30001 0),(.omap 9100001),(.vsl 35002 za.length),(.int .i64 zb),(.int .i64 zc)]),(30001,.row 79 [(.vsl 35100 zd.length),(AV.list 3 E2 default zf (.own 37101))]),(37101,.tok 3 49 zg),(35002,.arr 1 26 za.length (λi=>D8 (za.getD i []))),(35100,.arr 1 5 zd.length (λi=>Ur (zd.getD i 0))),(9100001,.obj (.tab .i64 WX))]:List Vf)
def Z2:=λza zb zc zd zf zg zm=>((30000,.row 109 [(AV.list 1 Ax 0 za .none),(.int .i64 zb),(AV.list 5 Jx default zc .none),(.int .i64 zd),(AV.list 1 Ax 0 zf .none),(.omap zg),(AV.list 5 Ol default zm (.own 37006))]):Nat×Own)
def Z3:=λza zb zc zd zf zg zm=>([(30000,.row 109 [(AV.list 1 Ax 0 za .none),(.int .i64 zb),(AV.list 5 Jx default zc .none),(.int .i64 zd),(AV.list 1 Ax 0 zf .none),.nilm,(AV.list 5 Ol default zg (.own 37006))]),(37006,.tok 5 152 zm)]:List Vf)
def Z4:=λza zb zc zd zf zg zm zn zp zq zt zv=>(⟨[(30000,30000),(30001,30001),(37101,37101),(35002,35002),(35100,35100),(9100001,9100001)],[(20000,31)],(.tuple [(AV.list 1 Dc 0 za (.own 20000)),(.int .i64 zb)]),[(30000,.row 85 [(.ptr 30001 0),(.omap 9100001),zc,(.int .i64 zd),zf]),(30001,.row 79 zg),(37101,.tok 3 49 zm),(35002,.arr 1 26 zn zp),(35100,.arr 1 5 zq zt),(9100001,.obj (.tab .i64 WX)),(20000,.tok 1 37 zv)],[],[30000,30001,37101,35002,35100,9100001]⟩:Qj)
def Z5:=λ(za:Am) zb zc=>([(30000,.row 79 [(.vsl 35000 za.length),(AV.list 3 E2 default zb (.own 37001))]),(37001,.tok 3 49 zc),(35000,.arr 1 5 za.length (λi=>Ur (za.getD i 0)))]:List Vf)
def Z6:=λ(za:List (List (Int))) zb zc (zd:Am) zf zg=>([(30000,.row 85 [(.ptr 30001 0),.nilm,(.vsl 35002 za.length),(.int .i64 zb),(.int .i64 zc)]),(30001,.row 79 [(.vsl 35100 zd.length),(AV.list 3 E2 default zf (.own 37101))]),(37101,.tok 3 49 zg),(35002,.arr 1 26 za.length (λi=>D8 (za.getD i []))),(35100,.arr 1 5 zd.length (λi=>Ur (zd.getD i 0)))]:List Vf)
def Z7:=λ(za:List (List (Int))) zb zc (zd:Am) zf zg zm=>([(30000,.row 85 [(.ptr 30001 0),(.omap 9100001),(.vsl 35002 za.length),(.int .i64 zb),(.int .i64 zc)]),(30001,.row 79 [(.vsl 35100 zd.length),(AV.list 3 E2 default zf (.own 37101))]),(37101,.tok 3 49 zg),(35002,.arr 1 26 za.length (λi=>D8 (za.getD i []))),(35100,.arr 1 5 zd.length (λi=>Ur (zd.getD i 0))),(9100001,.obj (.tab .i64 WX)),(20000,.tok 1 37 zm)]:List Vf)
def Z8:=λza=>(⟨[],[],(.bool za),[],[],[]⟩:Qj)
def Z9:=λza zb (zc:Am) zd zf zg=>([(za,.row 79 [(.vsl zb zc.length),(AV.list 3 E2 default zd (.own zf))]),(zb,.arr 1 5 zc.length (λi=>Ur (zc.getD i 0))),(zf,.tok 3 49 zg)]:List Vf)
def Az:=λza=>((.int .i64 za):AV)
def YN:=λza zb zc=>([(.ptr 30001 0),(.omap 9100001),(.vsl 35002 za),(Az zb),(Az zc)]:List AV)
def AU:=λza (zb:Am)=>((za,.arr 1 3 zb.length (λi=>Ax (zb.getD i 0))):Nat×Own)
def RV:=λza zb zc zd=>([(.vsl za zb),(AV.list 3 E2 default zc (.own zd))]:List AV)
def Rs:=λza=>((AV.list 1 Ax 0 za .none):AV)
def tK:=λza=>((AV.list 2 Bs ((0:Int),(0:Int)) za .none):AV)
def PW:=λza (zb:Am)=>((za,.arr 1 5 zb.length (λi=>Ur (zb.getD i 0))):Nat×Own)
def zx:=λza zb zc zd zf zg zm zn=>([(Z2 za zb zc zd zf 9100005 zg),(37006,.tok 5 152 zm),(9100005,.obj (.map false .i64 zn))]:List Vf)
def dM:=λza zb zc zd=>((za,.arr 1 22 zb (Oy 1 Ax (0:Int) zc (Tag.fam zd))):Nat×Own)
def YO:=λza (zb:List (List (Int)))=>((za,.arr 1 26 zb.length (λi=>D8 (zb.getD i []))):Nat×Own)
def zy:=λza zb zc zd zf zg zm=>(⟨[(30000,30000),(30001,30001),(37101,37101),(35002,35002),(35100,35100),(9100001,9100001)],[],(.int .u64 za),(Z1 zb zc zd zf zg zm),[],[30000,30001,37101,35002,35100,9100001]⟩:Qj)
def Pz:=((.int .i64 (0:Int)):AV)
def XC:=λza=>(⟨[],[],(.int .u64 za),[],[],[]⟩:Qj)
def yg:=λza zb=>(⟨[(30000,30000),(30001,30001),(37101,37101),(35002,35002),(35100,35100),(9100001,9100001)],[],(.agg (GB za)),zb,[],[30000,30001,37101,35002,35100,9100001]⟩:Qj)
def bW:=((AV.list 1 Dc 0 ([]:Am) .exact):AV)
def Ve:=λza=>((.int .i64 (za:Int)):AV)
def lf:=λza (zb:List Bool)=>((za,.arr 1 4 zb.length (λi=>eB (zb.getD i false))):Nat×Own)
def lg:=λza zb=>((AV.list 1 Dc 0 za (.own zb)):AV)
def bX:=λza=>((AV.list 5 Jx default za .none):AV)
def WT:=λza=>((AV.list 1 Lg [] za .none):AV)
def WU:=λza zb=>((AV.list 1 Ax 0 za (.own zb)):AV)
def bY:=λza zb zc zd zf zg zm=>([(Z2 za zb zc zd zf 9100005 zg),(37006,.tok 5 152 zm)]:List Vf)
def Ru:=λza=>((.int .u64 za):AV)
def Z33:=λza zb zc zd zf zg zm zn zp zq=>(⟨[(30000,30000),(30001,30001),(37101,37101),(35002,35002),(35100,35100),(9100001,9100001)],[(20000,za)],(.tuple [(lg zb 20000),(Az zc)]),(Z7 zd zf zg zm zn zp zq),[],[]⟩:Qj)
def nF:=λza=>((3,(AV.list 5 O5 default za (.own 5003))):Nat×AV)
def Z35:=λza (zb:Am) (zc:Am)=>((.slice 1 (bif za then zb.length else zc.length) (λi=>bif za then Ax (zb.getD i 0) else Ax (zc.getD i 0)) .none):AV)
def Xz:=λza=>((.agg (kC za)):AV)
def dN:=((.slice 0 0 (λ_=>[]) .exact):AV)
def oD:=λza (zb:Am)=>((za,.arr 1 37 zb.length (λi=>Dc (zb.getD i 0))):Nat×Own)
def Z39:=λza zb zc zd zf zg zm zn=>([(30000,.row 85 (YN za zb zc)),(30001,.row 79 (RV 35100 zd zf 37101)),(YO 35002 zg),(PW 35100 zm),(37101,.tok 3 49 zn),(9100001,.obj (.tab .i64 WX))]:List Vf)
def z6:=λza zb zc zd zf zg=>((30000,.row 109 [(Rs za),(Az zb),(bX zc),(Az zd),(Rs zf),(.omap 8),(AV.list 5 Ol default zg (.own 37006))]):Nat×Own)
def ER:=([(.ptr 30000 0)]:List AV)
def z7:=λ(za:Am)=>((.slice 1 (za.length-(1:Int).toNat) (λi=>Ax (za.getD ((1:Int).toNat+i) 0)) .none):AV)
def oE:=((AV.list 1 Ax 0 ([]:Am) .exact):AV)
def XD:=λza=>(⟨[],[],(Az za),[],[],[]⟩:Qj)
def XE:=λza zb=>((AV.list 1 eB false za (.own zb)):AV)
def Z46:=λza zb zc zd zf zg zm=>(⟨[(30000,30000),(30001,30001),(37101,37101),(35002,35002),(35100,35100),(9100001,9100001)],[],(.bool za),(Z1 zb zc zd zf zg zm),[],[30000,30001,37101,35002,35100,9100001]⟩:Qj)
def Z47:=λza zb zc=>(⟨[(30000,30000),(30001,30001),(37101,37101),(35002,35002),(35100,35100)],[],(.clo 83 [] [(.rpo za),(.rpo [(Ve zb)])]),zc,[],[30000,30001,37101,35002,35100]⟩:Qj)
def z8:=λza zb zc zd zf zg zm zn=>(⟨[(30000,30000),(37006,37006),(9100005,9100005)],[],(.tuple []),(zx za zb zc zd zf zg zm zn),[],[]⟩:Qj)
def Z49:=(⟨[(4,(AV.list 1 Ax 0 ([]:Am) (.own 6004)))],[(6004,.tok 1 3 (([]:Am).length))],[]⟩:St)
abbrev YK:=(Nat×AV)
def Z50:=λza zb zc zd=>([(za,(AV.list 5 O5 default zb .exact)),(zc,(AV.list 5 O5 default (zd++zb) (.own 5003)))]:List YK)
def tM:=λza=>((3,(AV.list 5 P1 default za (.own 5003))):Nat×AV)
def V8:=((2,(.ptr 2 0)):Nat×AV)
def YP:=λza zb zc=>((30000,.row 85 (YN za zb zc)):Nat×Own)
def Z54:=λza (zb:List Bj) (zc:List Bj)=>((.slice 5 (bif za then zb.length else zc.length) (λi=>bif za then Ol (zb.getD i default) else Ol (zc.getD i default)) (.own 37006)):AV)
def Z55:=((AV.list 2 Bs ((0:Int),(0:Int)) ([]:List Hs) .exact):AV)
def xL:=λza zb zc zd zf=>((37,.arr 1 93 za (λi_=>AV.eraseAll zb ((E0 zc zd 0 [(.vsl 46 zf)]) i_))):Nat×Own)
def RW:=((.int .i64 (1:Int)):AV)
def lh:=λza=>(⟨[],[],(tK za),[],[],[]⟩:Qj)
def vo:=λza zb=>((.agg (kC (H9 (default:A2) za zb))):AV)
def ge:=λza=>((AV.list 1 Dc 0 za .none):AV)
def FZ:=((1,(.ptr 1 0)):Nat×AV)
def Sp:=λza zb=>((za,.tok 1 4 zb):Nat×Own)
def yh:=((AV.list 1 Lg [] ([]:Ey) .exact):AV)
def tO:=λza=>((AV.list 1 Ax 0 ([za]:Am) .exact):AV)
def Z65:=λza zb=>(⟨[(30000,30000),(30001,30001),(37101,37101),(35002,35002),(35100,35100),(9100001,9100001)],[],(.bool za),zb,[],[]⟩:Qj)
def xM:=λza zb=>((AV.list 2 Bs ((0:Int),(0:Int)) za (.own zb)):AV)
def Z67:=λza zb zc=>(⟨[],[(20000,za)],(lg zb 20000),[(20000,.tok 1 37 zc)],[],[]⟩:Qj)
def Z68:=λza zb zc zd zf zg zm zn zp=>(⟨[(4,(AV.list 1 Dc 0 ([]:Am) (.own 6004))),(5,(Az za))],[(6004,.tok 1 37 (([]:Am).length)),(YP zb zc zd),(30001,.row 79 (RV 35100 zf zg 37101)),(YO 35002 zm),(PW 35100 zn),(37101,.tok 3 49 zp),(9100001,.obj (.tab .i64 WX))],[]⟩:St)
def Z69:=λza zb zc=>(⟨[],[(20000,za)],(WU zb 20000),[(20000,.tok 1 3 zc)],[],[]⟩:Qj)
def rx:=λza zb=>([(.agg (X4 za)),(Az zb)]:List AV)
def Ud:=λza zb=>((7,(.vsl za zb)):Nat×AV)
def bZ:=λza zb zc zd zf=>((za,.row 79 (RV zb zc zd zf)):Nat×Own)
def Z73:=λza zb=>(⟨[(30000,30000),(30001,30001),(37101,37101),(35002,35002),(35100,35100)],[],(.clo 83 [] [(.rpo za),(.rpo [(.int .i64 (4:Int))])]),zb,[],[30000,30001,37101,35002,35100]⟩:Qj)
def IM:=λza=>((.agg (PX za)):AV)
def Z75:=λza zb zc=>(⟨[(30000,30000),(30001,30001),(37101,37101),(35002,35002),(35100,35100),(9100001,9100001)],[],(.tuple [(ge za),(Az zb)]),zc,[],[30000,30001,37101,35002,35100,9100001]⟩:Qj)
def Z76:=λza zb zc zd zf zg=>(⟨[(za,30000),(zb,37001),(zc,35000)],[],(.tuple [(.agg (GB zd)),(Az zf)]),zg,[],[]⟩:Qj)
def Ni:=λza zb zc=>((za,.tok 5 zb zc):Nat×Own)
def Z78:=λza zb=>(⟨[(30000,30000),(30001,30001),(37101,37101),(35002,35002),(35100,35100),(9100001,9100001)],[],(Ru za),zb,[],[30000,30001,37101,35002,35100,9100001]⟩:Qj)
def Z79:=λza zb zc=>(⟨[(30000,30000),(30001,30001),(37101,37101),(35002,35002),(35100,35100)],[],(.clo 82 [] [(.rpo za),(.rpo [(.clo zb za [])])]),zc,[],[30000,30001,37101,35002,35100]⟩:Qj)
def ry:=λza zb=>((AV.list 1 Lg [] za (.own zb)):AV)
def KR:=λza zb=>((za,.tok 3 49 zb):Nat×Own)
def Z82:=λza zb zc zd=>([(za,(AV.list 5 P1 default zb .exact)),(zc,(AV.list 5 P1 default (zd++zb) (.own 5003)))]:List YK)
def Z83:=λza zb zc=>(⟨[(30000,30000),(30001,30001),(37101,37101),(35002,35002),(35100,35100)],[],(.clo 78 [] [(.rpo [(.clo za [] [])]),(.rpo zb)]),zc,[],[30000,30001,37101,35002,35100]⟩:Qj)
def oF:=λza zb=>((7,.row 72 [za,(.vsl 77 zb)]):Nat×Own)
def Z85:=λza zb zc zd zf zg=>((1,.row 51 [(Az za),(Az zb),(Az zc),(Az zd),(Rs zf),(Ru zg)]):Nat×Own)
def Z86:=λza zb=>(⟨[(30000,30000),(30001,30001),(37101,37101),(35002,35002),(35100,35100),(9100001,9100001)],[],(Az za),zb,[],[30000,30001,37101,35002,35100,9100001]⟩:Qj)
def jt:=λza zb=>([(lg za 20000),(Az zb)]:List AV)
def XF:=λza=>((.agg (eTFunc za)):AV)
def P0:=λza zb=>((2,.row za zb):Nat×Own)
def Z90:=λza (zb:List Ai) (zc:List Ai)=>((.slice 5 (bif za then zb.length else zc.length) (λi=>bif za then Jx (zb.getD i default) else Jx (zc.getD i default)) .none):AV)
def tP:=λza=>([(30000,.row 3 [(Az za)])]:List Vf)
def Z92:=λza zb zc zd zf zg zm zn zp=>(⟨[(30000,30000),(37006,37006),(9100005,9100005)],[],(.agg (QW za)),(zx zb zc zd zf zg zm zn zp),[],[]⟩:Qj)
def oG:=λza=>((za,.obj (.tab .i64 WX)):Nat×Own)
def nG:=((.int .i64 (5:Int)):AV)
def Z95:=λ(za:Am)=>((6,.arr 1 165 64 (λi=>Ax (za.getD i 0))):Nat×Own)
def Z96:=λza zb zc zd zf zg=>(⟨[],[(20000,za),(21000,zb),(21001,zc)],(.tuple [zd,(Az zf)]),(bif true then zg else[]),[],[]⟩:Qj)
def Z97:=λza (zb:Am) (zc:Am)=>((.slice 1 (bif (za==true) then zb.length else zc.length) (λi=>bif (za==true) then Ax (zb.getD i 0) else Ax (zc.getD i 0)) .none):AV)
def Z98:=λza zb zc zd zf zg zm zn=>(⟨[(30000,30000),(37006,37006)],[],(.bool za),(Z3 zb zc zd zf zg zm zn),[],[]⟩:Qj)
def Z99:=(⟨[(2,(AV.list 2 Bs ((0:Int),(0:Int)) ([]:List Hs) (.own 6002)))],[(6002,.tok 2 63 (([]:List Hs).length))],[]⟩:St)
def PS:=((.int .i64 (3:Int)):AV)
def PT:=λza=>((2,.row 72 [za,za]):Nat×Own)
def RQ:=((6,(.vpt 6 64 0 0)):Nat×AV)
def zo:=λza zb=>(⟨[(30000,30000),(30001,30001),(37101,37101),(35002,35002),(35100,35100),(9100001,9100001)],[],(Az za),zb,[],[]⟩:Qj)
def xD:=λ(za:List Hs)=>([(30,.arr 2 63 za.length (λi=>Bs (za.getD i ((0:Int),(0:Int)))))]:List Vf)
def dL:=λza zb zc=>((.int .i64 (bif za then zb else zc)):AV)
def n5:=λza=>((AV.list 3 E2 default za (.own 20000)):AV)
def RS:=((.int .i64 (2:Int)):AV)
def RT:=((5,(.vpt 5 64 0 0)):Nat×AV)
def xE:=λza zb zc zd zf zg zm zn zp=>(⟨[(30000,30000),(37006,37006),(9100005,9100005)],[],(.bool za),(zx zb zc zd zf zg zm zn zp),[],[]⟩:Qj)
def zr:=λza zb zc zd zf zg=>(⟨[(30000,30000),(30001,30001),(37101,37101),(35002,35002),(35100,35100),(9100001,9100001)],[],(.tuple []),(Z1 za zb zc zd zf zg),[],[]⟩:Qj)
def tH:=((AV.list 1 Lg [] ([]:Ey) .none):AV)
def xF:=λza zb zc zd zf=>([(bZ 30000 35000 za zb 37001),(KR 37001 zc),(PW 35000 zd),(20000,.tok 1 37 zf)]:List Vf)
def n6:=λza=>(⟨[],[],(.agg (Bs za)),[],[],[]⟩:Qj)
def xG:=λza zb zc zd zf=>([(bZ 30000 35000 za zb 37001),(KR 37001 zc),(PW 35000 zd),(20000,.tok 1 5 zf)]:List Vf)
def CD:=λza zb=>([(Ru za),(Ru zb)]:List AV)
def Ds:=λza zb=>((za,(Az zb)):Nat×AV)
def PU:=λza=>((6,.arr 1 165 64 za):Nat×Own)
def xH:=λza zb zc zd zf=>([(bZ 30000 35000 za zb 37001),(KR 37001 zc),(PW 35000 zd),(KR 20000 zf)]:List Vf)
def zu:=λza zb zc zd zf zg zm zn=>(⟨[(30000,30000),(30001,30001),(37101,37101),(35002,35002),(35100,35100),(9100001,9100001)],[],(.tuple [(ge za),(Az zb)]),(Z1 zc zd zf zg zm zn),[],[]⟩:Qj)
def RU:=λza=>((5,.arr 1 164 64 za):Nat×Own)
def n7:=λza zb=>(⟨[],[],(.tuple (rx za zb)),[],[],[]⟩:Qj)
def tI:=λza zb=>(⟨[],[],(.tuple [(Az za),(Az zb)]),[],[],[]⟩:Qj)
def zw:=λza zb=>([(29,(AV.list 3 E2 default za .exact)),(30,(AV.list 3 E2 default (zb++za) (.own 37001)))]:List YK)
def n8:=λza=>((AV.list 3 E2 default za .none):AV)
def n9:=λza zb zc zd=>((37,.arr 1 93 za (E0 zb zc 0 [(.vsl 46 zd)])):Nat×Own)
def tJ:=λza=>((.clo 83 [] [(.rpo ER),(.rpo [(Az za)])]):AV)
def bV:=((.int .i64 (8:Int)):AV)
def oA:=λza zb zc=>(⟨[(4,(WU za zb))],[(zb,.tok 1 3 zc)],[]⟩:St)
def PV:=((5,(.ptr 5 0)):Nat×AV)
def xI:=λza zb zc=>(⟨[],[],(.tuple [za,(Az zb)]),(bif false then zc else[]),[],[]⟩:Qj)
def xJ:=λza zb=>(⟨[(30000,30000),(37006,37006)],[],(Az za),zb,[],[]⟩:Qj)
def xK:=((AV.list 3 E2 default ([]:List Ac) .exact):AV)
def Ha:=λza=>((.ptr za 0):AV)
def oB:=λza=>((AV.list 1 Ur 0 za (.own 20000)):AV)
def oC:=λza zb zc=>(⟨[(4,(.vsl za zb))],[(AU za zc)],[]⟩:St)
def gb:=λza=>((AV.list 1 Ur 0 za .none):AV)

def Q3:AV:=(AV.list 1 Ur 0 ([]:Am) .exact)
def Q4:=(⟨[(2,(.vsl 36002 ([]:Am).length))],[(36002,.arr 1 5 (([]:Am).length) (λi=>Ur (([]:Am).getD i 0)))],[]⟩:St)
def Cz(aZ:Am):Option Am:=
 (Aw (aZ.length<=room) (some aZ))
variable{v0:Am}{v1:Am}
theorem Mv(h:Cz v0=some v1):sP 25 [(gb v0)] [] (.vsl 20000 v1.length) [(PW 20000 v1)]:=by
 refine MG mix Tryz.func25 (λΓ hq=>?_);unfold Cz at h;refine gR hq [0] [] [(2,Q3)] [] (c1 (Bi 1 Ur (0:Int))) ?_;refine Ae hq Wq [] ?_;refine Aaj true v0.length (λhb=>?_) (λhb=>?_)
 ·replace h:=pj (some ([]:Am)) (λ(l2:Am)=>(Aw (l2.length<=room) (some l2))) h (hb rfl) rfl (λh0=>by first|exact h0|simpa [Aw,room] using h0);clear hb;refine gR hq [2] [] [(2,Q3)] [] (c1 (Bi 1 Ur (0:Int))) ?_;refine Qi (⟨[(2,Q3)],[],[]⟩:St) ?_;cases h;exact gK (e:=.ret) (Hu [(36002,20000)] (show Le Γ _ Q4 from Le.trans (Bk (st':=⟨[(2,Q3)],[],[]⟩) [2] [] hq) (Le.trans (pU (t:=2) (nm:=36002) (sz':=1) (λi=>Ur (([]:Am).getD i 0)) 5 rfl rfl) (Bk (st':=Q4) [2] [36002] hq))))
 ·clear hb;obtain⟨hc1,h⟩:=Uq h;refine gR hq [2] [7] [(5,Q3),(7,.vsl 7 0)] [] (ci (show(AVle (.slice 1 0 (λi=>([]:List (List AV)).getD i []) .exact) Q3) from gt rfl (λi hi=>absurd hi (Xn i))) (c1 hc1)) ?_;obtain rfl:=OI h;exact Be [(7,20000)]
def Q6(x1:Am):List AV:=[(.vsl 8 x1.length),xK]
def Q7(x1:Am):=(⟨[(2,(.ptr 10 0)),(3,Pz)],[(8,.arr 1 5 x1.length (λi=>Ur (x1.getD i 0))),(10,.row 79 (Q6 x1))],[]⟩:St)
def Q5(x1:Am):=(⟨[(2,(.ptr 10 0)),(3,Pz)],[(8,.arr 1 5 x1.length (λi=>Ur (x1.getD i 0))),(10,.row 79 [(.vsl 8 x1.length),(AV.list 3 E2 default ([]:List Ac) (.own 6102001))]),(6102001,.tok 3 49 (([]:List Ac).length))],[]⟩:St)
abbrev yj:=((Bool×xC)×Int)
def Sc(aD:Am):Option yj:=
 (bif (decide ((4096:Int)<(aD.length:Int))) then(some ((false,(default:xC)),(4:Int))) else((Cz aD).bind λx1=>(some ((true,(⟨x1,([]:List Ac)⟩:xC)),(0:Int)))))
variable{v2:yj}
theorem N3(h:Sc v0=some v2):sP 8 [(gb v0)] [] (.tuple [(bif v2.1.1 then((Ha 20000):AV) else .nilp),(Az v2.2)]) (bif v2.1.1 then(Z9 20000 21000 v2.1.2.bytes v2.1.2.trace 21001 v2.1.2.trace.length) else[]):=
 sG Tryz.func8 λΓ q=>tW q [0] [] [0,6] [] (gC h (λh=>Ae q Cn [] (tS h (Be []))) λh=>tB h λx1 y1 h=>gR q Cn [8,10] [(9,(.agg (Q6 x1)))] [⟨[],[(20000,8)],(.vsl 20000 x1.length),[(PW 20000 x1)],[],[]⟩] (c2 (Mv y1) (show(AVle (.agg [(.vsl 8 x1.length),dN]) (.agg (Q6 x1))) from(AVle.agg (.cons (AVle.refl _) (.cons He .nil))))) (Qi (Q7 x1) (tS h (gK (e:=.ret) (Hu [(10,20000),(8,21000),(6102001,21001)] (show Le Γ _ (Q5 x1) from Le.trans (Bk (st':=(Q7 x1)) Cn [8,10] q) (Le.trans (OA (r:=10) (j:=1) (nm:=6102001) (sz':=3) (λi=>E2 (([]:List Ac).getD i default)) 49 rfl rfl (nl rfl) rfl (.inl ⟨rfl,rfl⟩) (λh_=>absurd h_ (by decide))) (Bk (st':=(Q5 x1)) Cn [8,10,6102001] q))))))))
abbrev sE:=(LR (Int×Int) Int)
def Qs(a1:TFunc):Hs->Option sE:=
 λ((i1,i2):Hs)=>(bif (decide (i2<(a1.Blocks.length:Int))) then(Aw (A0 i2 a1.Blocks.length) (some (.next ((w64 (i1+(w64 ((((a1.Blocks.getD i2.toNat default).Phis).length:Int)+(((a1.Blocks.getD i2.toNat default).Ops).length:Int))))),(w64 (i2+1)))))) else(some (.done i1)))
def Vq(a1:TFunc):Option Int:=
 ((Ad (Qs a1) ((a1.Blocks.length:Int),(0:Int))).bind (λx5=>(some x5)))
variable{v3:TFunc}{v4:Int}
theorem cC(h:Vq v3=some v4):sP 110 [(XF v3)] [] (.int .i64 v4) []:=
 sG Tryz.func110 λΓ q=>tW q [1] [1] M1 [1] (Ae q ck [] (tL q h ck [] (λu (i1,i2)=>(Cs u [(3,(Az i1)),(Ds 12 i2)] [])) (λu i3=>aG Γ (.exit 0) (⟨[(3,(Az i3))],[],[]⟩:St)) (λ⟨i1,i2⟩ y h=>Ae q [3,10,11,12,13] [] (gC h (λh=>tV q [3,5,10,11,12] [5] h λh=>tW q ck [] ck [] (tN h)) λh=>tS h (gO (Bd (Bk [3] [] q))))) λx5 h=>gA (Ae q [2] [] (tS h (Be [])))))
def Kp(aJ:Am):Int->Option (LR Int (Unit ⊕ Bool)):=
 λ(i1:Int)=>(bif (decide (i1<(aJ.length:Int))) then(Aw (A0 i1 aJ.length) (bif (bif (decide ((aJ.getD i1.toNat 0)<0)) then true else(decide ((2147483647:Int)<(aJ.getD i1.toNat 0)))) then(some (.done (.inr false))) else(some (.next (w64 (i1+1)))))) else(some (.done (.inl ()))))
def IJ(Γ:Il)(aJ:Am)(r:Bool):Exit->St->Prop:=fK Tryz.prog Γ Tryz.f111.results.toList [] (.bool r) []
def D5(aJ:Am):Option Bool:=
 ((Ad (Kp aJ) (0:Int)).bind (λx3=>(match x3 with|(.inl _)=>(some true)|(.inr r5)=>(some r5))))
variable{v5:Bool}
theorem Hz(h:D5 v0=some v5):sP 111 [(Rs v0)] [] (.bool v5) []:=
 sG Tryz.func111 λΓ q=>tW q [0] [] [5,6,7] [] (tL q h [5,6,7] [] (λu i1=>(Cs u [(7,(Az i1))] [])) (λu x_=>match x_ with|(.inl _)=>aG Γ (.exit 0) (⟨[],[],[]⟩:St)|(.inr r_)=>aR (IJ Γ v0 r_)) (λi1 y h=>Ae q [5,6,7,8] [] (gC h (λh=>tV q [4,5,6,7] [] h λh=>tU q [5,6,7,16] [] (c2 (gI ((decide ((v0.getD i1.toNat 0)<0))==false)) (Kl (decide ((v0.getD i1.toNat 0)<0)))) (gC h (λh=>Ae q [2] [] (tS h (gO (Lc (Hu [] (Le.refl _ _)))))) λh=>Ae q [5,6,7] [] (tN h))) λh=>tS h (gO (Bd (Bk [] [] q))))) λx3 h=>(match x3,h with | .inl _,h=>gA (Ae q [2] [] (tS h (Be []))) | .inr r5,h=>Pu (λst' hk=>tS h (gK hk))))
def Ja(aJ:Am):Option Bool:=
 ((bif ((decide ((aJ.length:Int)<=64))==true) then D5 aJ else some false).bind λx1=>(some (bif (decide ((aJ.length:Int)<=64)) then x1 else false)))
theorem Of(h:Ja v0=some v5):sP 166 [(Rs v0)] [] (.bool v5) []:=
 sG Tryz.func166 λΓ q=>Ae q [0] [] (tB h λx1 y1 h=>tT q [2] [] [(Z8 x1)] (c3 (gI ((decide ((v0.length:Int)<=64))==true)) (λ(hg:((decide ((v0.length:Int)<=64))==true)=true)=>(Hz (B0 hg y1))) (Nn (decide ((v0.length:Int)<=64)))) (tS h (Be [])))
def Qu(aa9:Ff):Option Bool:=
 ((D5 ([aa9.Bits,aa9.Dst]:Am)).bind λx1=>((bif (x1==true) then Ja aa9.From else some false).bind λx2=>((bif ((bif x1 then x2 else false)==true) then Ja aa9.Args else some false).bind λx3=>(some (bif (bif x1 then x2 else false) then x3 else false)))))
variable{v6:Ff}
theorem PZ(h:Qu v6=some v5):sP 151 [(.agg (W0 v6))] [] (.bool v5) []:=
 sG Tryz.func151 λΓ q=>Ae q [1] [1] (tB h λx1 y1 h=>tB h λx2 y2 h=>tB h λx3 y3 h=>gR q [2] [] [(7,(AV.list 1 Ax 0 ([v6.Bits,v6.Dst]:Am) .exact))] [(Z8 x1),(Z8 x2),(Z8 x3)] (KO (B9 1 Ax (0:Int) ([v6.Bits,v6.Dst]:Am)) (Hz y1) (Mn (x1==true) (KO (λ(hg:(x1==true)=true)=>(Of (B0 hg y2))) (Nn x1) (Mn ((bif x1 then x2 else false)==true) (c2 (λ(hg:((bif x1 then x2 else false)==true)=true)=>(Of (B0 hg y3))) (Nn (bif x1 then x2 else false))))))) (tS h (Be [])))
def H2(aJ:List Ff):Int->Option (LR Int (Unit ⊕ Bool)):=
 λ(i1:Int)=>(bif (decide (i1<(aJ.length:Int))) then(Aw (A0 i1 aJ.length) ((Qu (aJ.getD i1.toNat default)).bind λx3=>(bif (!x3) then(some (.done (.inr false))) else(some (.next (w64 (i1+1))))))) else(some (.done (.inl ()))))
def Z0(Γ:Il)(aJ:List Ff)(r:Bool):Exit->St->Prop:=fK Tryz.prog Γ Tryz.f150.results.toList [] (.bool r) []
def J1(aJ:List Ff):Option Bool:=
 ((Ad (H2 aJ) (0:Int)).bind (λx4=>(match x4 with|(.inl _)=>(some true)|(.inr r6)=>(some r6))))
variable{v7:List Ff}
theorem Yn(h:J1 v7=some v5):sP 150 [(AV.list 4 W0 default v7 .none),(.clo 151 [] [])] [] (.bool v5) []:=
 sG Tryz.func150 λΓ q=>tW q Ew [] Ng [] (tL q h Ng [] (λu i1=>(Cs u [(9,(Az i1))] [])) (λu x_=>match x_ with|(.inl _)=>aG Γ (.exit 0) (⟨[],[],[]⟩:St)|(.inr r_)=>aR (Z0 Γ v7 r_)) (λi1 y h=>Ae q PI [] (gC h (λh=>tV q PJ [6] h λh=>tB h λx3 y3 h=>tT q WS [] [(Z8 x3)] (c1 (PZ y3)) (gC h (λh=>Ae q [4] [] (tS h (gO (Lc (Hu [] (Le.refl _ _)))))) λh=>Ae q Ng [] (tN h))) λh=>tS h (gO (Bd (Bk [] [] q))))) λx4 h=>(match x4,h with | .inl _,h=>gA (Ae q [4] [] (tS h (Be []))) | .inr r6,h=>Pu (λst' hk=>tS h (gK hk))))
def Sv(a0:C5):Option Bool:=
 ((D5 ([a0.Kind,a0.Bits,a0.Lanes,a0.Dst]:Am)).bind λx1=>((bif (x1==true) then Ja a0.Args else some false).bind λx2=>(some (bif x1 then x2 else false))))
variable{v8:C5}
theorem TO(h:Sv v8=some v5):sP 153 [(IM v8)] [] (.bool v5) []:=
 sG Tryz.func153 λΓ q=>Ae q [1] [1] (tB h λx1 y1 h=>tB h λx2 y2 h=>gR q [2] [] [(11,(AV.list 1 Ax 0 ([v8.Kind,v8.Bits,v8.Lanes,v8.Dst]:Am) .exact))] [(Z8 x1),(Z8 x2)] (KO (B9 1 Ax (0:Int) ([v8.Kind,v8.Bits,v8.Lanes,v8.Dst]:Am)) (Hz y1) (Mn (x1==true) (c2 (λ(hg:(x1==true)=true)=>(Of (B0 hg y2))) (Nn x1)))) (tS h (Be [])))
def Ir(aJ:List C5):Int->Option (LR Int (Unit ⊕ Bool)):=
 λ(i1:Int)=>(bif (decide (i1<(aJ.length:Int))) then(Aw (A0 i1 aJ.length) ((Sv (aJ.getD i1.toNat default)).bind λx3=>(bif (!x3) then(some (.done (.inr false))) else(some (.next (w64 (i1+1))))))) else(some (.done (.inl ()))))
def BR(Γ:Il)(aJ:List C5)(r:Bool):Exit->St->Prop:=fK Tryz.prog Γ Tryz.f152.results.toList [] (.bool r) []
def Ko(aJ:List C5):Option Bool:=
 ((Ad (Ir aJ) (0:Int)).bind (λx4=>(match x4 with|(.inl _)=>(some true)|(.inr r6)=>(some r6))))
variable{v9:List C5}
theorem BB(h:Ko v9=some v5):sP 152 [(AV.list 6 PX default v9 .none),(.clo 153 [] [])] [] (.bool v5) []:=
 sG Tryz.func152 λΓ q=>tW q Ew [] Ng [] (tL q h Ng [] (λu i1=>(Cs u [(9,(Az i1))] [])) (λu x_=>match x_ with|(.inl _)=>aG Γ (.exit 0) (⟨[],[],[]⟩:St)|(.inr r_)=>aR (BR Γ v9 r_)) (λi1 y h=>Ae q PI [] (gC h (λh=>tV q PJ [6] h λh=>tB h λx3 y3 h=>tT q WS [] [(Z8 x3)] (c1 (TO y3)) (gC h (λh=>Ae q [4] [] (tS h (gO (Lc (Hu [] (Le.refl _ _)))))) λh=>Ae q Ng [] (tN h))) λh=>tS h (gO (Bd (Bk [] [] q))))) λx4 h=>(match x4,h with | .inl _,h=>gA (Ae q [4] [] (tS h (Be []))) | .inr r6,h=>Pu (λst' hk=>tS h (gK hk))))
def Qt(aL:L6):Option Bool:=
 ((D5 ([aL.Kind,aL.Arg]:Am)).bind λx1=>((bif (x1==true) then Ja aL.To else some false).bind λx2=>(some (bif x1 then x2 else false))))
variable{v10:L6}
theorem PY(h:Qt v10=some v5):sP 154 [(.agg (du v10))] [] (.bool v5) []:=
 sG Tryz.func154 λΓ q=>Ae q [1] [1] (tB h λx1 y1 h=>tB h λx2 y2 h=>gR q [2] [] [(7,(AV.list 1 Ax 0 ([v10.Kind,v10.Arg]:Am) .exact))] [(Z8 x1),(Z8 x2)] (KO (B9 1 Ax (0:Int) ([v10.Kind,v10.Arg]:Am)) (Hz y1) (Mn (x1==true) (c2 (λ(hg:(x1==true)=true)=>(Of (B0 hg y2))) (Nn x1)))) (tS h (Be [])))
def Oc(aU:Ai):Option Bool:=
 ((J1 aU.Phis).bind λx1=>((bif (x1==true) then Ko aU.Ops else some false).bind λx2=>((bif ((bif x1 then x2 else false)==true) then Qt (⟨aU.End.Kind,aU.End.Arg,aU.End.To⟩:L6) else some false).bind λx3=>(some (bif (bif x1 then x2 else false) then x3 else false)))))
variable{v11:Ai}
theorem JR(h:Oc v11=some v5):sP 113 [(.agg (Jx v11))] [] (.bool v5) []:=
 sG Tryz.func113 λΓ q=>Ae q [1] [1] (tB h λx1 y1 h=>tB h λx2 y2 h=>tB h λx3 y3 h=>tT q [2] [] [(Z8 x1),(Z8 x2),(Z8 x3)] (ci (Yn y1) (Mn (x1==true) (KO (λ(hg:(x1==true)=true)=>(BB (B0 hg y2))) (Nn x1) (Mn ((bif x1 then x2 else false)==true) (c2 (λ(hg:((bif x1 then x2 else false)==true)=true)=>(PY (B0 hg y3))) (Nn (bif x1 then x2 else false))))))) (tS h (Be [])))
def Gv(aJ:List Ai):Int->Option (LR Int (Unit ⊕ Bool)):=
 λ(i1:Int)=>(bif (decide (i1<(aJ.length:Int))) then(Aw (A0 i1 aJ.length) ((Oc (aJ.getD i1.toNat default)).bind λx3=>(bif (!x3) then(some (.done (.inr false))) else(some (.next (w64 (i1+1))))))) else(some (.done (.inl ()))))
def Wv(Γ:Il)(aJ:List Ai)(r:Bool):Exit->St->Prop:=fK Tryz.prog Γ Tryz.f112.results.toList [] (.bool r) []
def Iq(aJ:List Ai):Option Bool:=
 ((Ad (Gv aJ) (0:Int)).bind (λx4=>(match x4 with|(.inl _)=>(some true)|(.inr r6)=>(some r6))))
variable{v12:List Ai}
theorem Wi(h:Iq v12=some v5):sP 112 [(bX v12),(.clo 113 [] [])] [] (.bool v5) []:=
 sG Tryz.func112 λΓ q=>tW q Ew [] Ng [] (tL q h Ng [] (λu i1=>(Cs u [(9,(Az i1))] [])) (λu x_=>match x_ with|(.inl _)=>aG Γ (.exit 0) (⟨[],[],[]⟩:St)|(.inr r_)=>aR (Wv Γ v12 r_)) (λi1 y h=>Ae q PI [] (gC h (λh=>tV q PJ [6] h λh=>tB h λx3 y3 h=>tT q WS [] [(Z8 x3)] (c1 (JR y3)) (gC h (λh=>Ae q [4] [] (tS h (gO (Lc (Hu [] (Le.refl _ _)))))) λh=>Ae q Ng [] (tN h))) λh=>tS h (gO (Bd (Bk [] [] q))))) λx4 h=>(match x4,h with | .inl _,h=>gA (Ae q [4] [] (tS h (Be []))) | .inr r6,h=>Pu (λst' hk=>tS h (gK hk))))
def Q9(a1:TFunc):=(decide ((a1.Blocks.length:Int)<1))
def Q8(a1:TFunc):=(decide ((16:Int)<(a1.Params.length:Int)))
def Ye(a1:TFunc):Option Bool:=
 (bif (bif (decide ((a1.Blocks.length:Int)<1)) then true else(decide ((64:Int)<(a1.Blocks.length:Int)))) then(some false) else((bif ((decide ((16:Int)<(a1.Params.length:Int)))==false) then Vq a1 else some (0:Int)).bind λx1=>(bif (bif (decide ((16:Int)<(a1.Params.length:Int))) then true else(decide ((512:Int)<x1))) then(some false) else((D5 a1.Params).bind λx2=>((bif (x2==true) then D5 ([a1.Ret]:Am) else some false).bind λx3=>((bif ((bif x2 then x3 else false)==true) then Iq a1.Blocks else some false).bind λx4=>(some (bif (bif x2 then x3 else false) then x4 else false))))))))
theorem et(h:Ye v3=some v5):sP 88 [(XF v3)] [] (.bool v5) []:=
 sG Tryz.func88 λΓ q=>Ae q [1] [1] (tU q [1,12] [1] (Xu ((Q9 v3)==false) (c1 (Kl (Q9 v3)))) (gC h (λh=>Ae q [2] [] (tS h (Be []))) λh=>tB h λx1 y1 h=>tT q [1,21] [1] [(XD x1)] (c4 (gI ((Q8 v3)==false)) (λ(hg:((Q8 v3)==false)=true)=>(cC (B0 hg y1))) (gI ((Q8 v3)==false)) (Kl (Q8 v3))) (gC h (λh=>Ae q [2] [] (tS h (Be []))) λh=>tB h λx2 y2 h=>tB h λx3 y3 h=>tB h λx4 y4 h=>gR q [2] [] [(28,(tO v3.Ret))] [(Z8 x2),(Z8 x3),(Z8 x4)] (ci (Hz y2) (Mn (x2==true) (XI (show((x2==true)=true->(AVle (.slice 1 1 (λi=>([[(Az v3.Ret)]]:List (List AV)).getD i []) .exact) (tO v3.Ret))) from(λhg=>@(B9 1 Ax (0:Int) ([v3.Ret]:Am)))) (gI (x2==true)) (λ(hg:(x2==true)=true)=>(Hz (B0 hg y3))) (Nn x2) (Mn ((bif x2 then x3 else false)==true) (c2 (λ(hg:((bif x2 then x3 else false)==true)=true)=>(Wi (B0 hg y4))) (Nn (bif x2 then x3 else false))))))) (tS h (Be [])))))
def Ns(aaI:Bool)(aL:Int):Option Int:=
 (bif aaI then(some (0:Int)) else(some aL))
variable{v13:Int}
theorem Zi(h:Ns v5 v4=some v13):sP 87 [(.bool v5),(Az v4)] [] (.int .i64 v13) []:=
 sG Tryz.func87 λΓ q=>tW q Ew [] [1,5] [] (gC h (λh=>Ae q [4] [] (tS h (Be []))) λh=>Ae q [4] [] (tS h (Be [])))
abbrev m9:=(Int×TFunc×Int×Am×List Bj)
def Km(a6:TFunc)(aB:Int)(a2:Am)(a3:List Bj):Option m9:=
 ((Ye a6).bind λx1=>((Ns x1 (4:Int)).bind λx2=>(some (x2,a6,aB,a2,a3))))
variable{v14:List Bj}{v15:m9}
theorem AZ(h:Km v3 v4 v0 v14=some v15):sP 71 ER (Z3 v3.Params v3.Ret v3.Blocks v4 v0 v14 v14.length) (Az v15.1) (Z3 v15.2.1.Params v15.2.1.Ret v15.2.1.Blocks v15.2.2.1 v15.2.2.2.1 v15.2.2.2.2 v15.2.2.2.2.length):=
 sG Tryz.func71 λΓ q=>Ae q [0] D4 (tB h λx1 y1 h=>tB h λx2 y2 h=>tT q [2] D4 [(Z8 x1),(XD x2)] (c2 (et y1) (Zi y2)) (tS h (Be Zv)))
def Mq(aO:Int):Option Bool:=
 (some (bif (decide ((1:Int)<=aO)) then(decide (aO<=64)) else false))
theorem Xb(h:Mq v4=some v5):sP 114 [(Az v4)] [] (.bool v5) []:=
 sG Tryz.func114 λΓ q=>Ae q [0] [] (tU q [2] [] (c2 (gI ((decide ((1:Int)<=v4))==true)) (Nn (decide ((1:Int)<=v4)))) (tS h (Be [])))
def Kg(aN:Int)(aO:Int):Option Bool:=
 (some (bif (decide ((0:Int)<=aN)) then(decide (aN<aO)) else false))
theorem Sd(h:Kg v4 v13=some v5):sP 119 [(Az v4),(Az v13)] [] (.bool v5) []:=
 sG Tryz.func119 λΓ q=>Ae q Ew [] (tU q [4] [] (Mn ((decide ((0:Int)<=v4))==true) (c1 (Nn (decide ((0:Int)<=v4))))) (tS h (Be [])))
def Fy(aL:L6)(aO:Int):Int->Option (LR Int (Unit ⊕ Bool)):=
 λ(i7:Int)=>(bif (decide (i7<(aL.To.length:Int))) then(Aw (A0 i7 aL.To.length) ((bif (((aL.To.getD i7.toNat 0)==0)==false) then Kg (aL.To.getD i7.toNat 0) aO else some false).bind λx9=>(bif (bif ((aL.To.getD i7.toNat 0)==0) then true else(!x9)) then(some (.done (.inr false))) else(some (.next (w64 (i7+1))))))) else(some (.done (.inl ()))))
def Y9(Γ:Il)(aL:L6)(aO:Int)(r:Bool):Exit->St->Prop:=fK Tryz.prog Γ Tryz.f115.results.toList [] (.bool r) []
def Q10(aL:L6)(i7:Int):=((aL.To.getD i7.toNat 0)==0)
def Pn(aL:L6)(aO:Int):Option Bool:=
 (Option.bind (α:=(Int ⊕ Bool)) (Option.bind (α:=Bool) (bif (aL.Kind==0) then(some (aL.Kind==0)) else(some (aL.Kind==3))) (λx3=>(bif x3 then(some (.inl (0:Int))) else(bif (aL.Kind==1) then(some (.inl (1:Int))) else(bif (aL.Kind==2) then(some (.inl (2:Int))) else(some (.inr false))))))) (λx5=>(match x5 with|(.inl i1)=>(bif ((aL.To.length:Int)!=i1) then(some false) else((Ad (Fy aL aO) (0:Int)).bind (λx10=>(match x10 with|(.inl _)=>(some true)|(.inr r12)=>(some r12)))))|(.inr r13)=>(some r13))))
theorem LW(h:Pn v10 v4=some v5):sP 115 [(.agg (du v10)),(Az v4)] [] (.bool v5) []:=
 sG Tryz.func115 λΓ q=>tW q Pe [2] Wo [2] (tB h λx5 y5 h=>gJ y5 (λx_=>match x_ with|(.inl i1)=>aG Γ .normal (⟨[(1,(Az v4)),V8,(5,(Az i1))],[(2,.row 54 [(Az v10.Kind),(Az v10.Arg),(Rs v10.To)])],[]⟩:St)|(.inr r_)=>aR (Y9 Γ v10 v4 r_)) (λy h=>Ae q [1,2,5,9] [2] (tB h λx3 y3 h=>gJ y3 (λb2=>aG Γ .normal (⟨[(1,(Az v4)),V8,(5,Pz),(9,(Az v10.Kind)),(10,(.bool b2))],[(2,.row 54 [(Az v10.Kind),(Az v10.Arg),(Rs v10.To)])],[]⟩:St)) (λy h=>Ae q [1,2,5,9,10] [2] (gC h (λh=>tS h (gK (Bd Jj))) λh=>Ae q [1,2,5,9,10] [2] (tS h (gK (Bd Jj))))) (gA (gC h (λh=>tS h (gK (Bd (Bk Wo [2] q)))) λh=>Ae q [1,2,9,13] [2] (gC h (λh=>Ae q Wo [2] (tS h (gK (Bd Jj)))) λh=>Ae q [1,2,15] [2] (gC h (λh=>Ae q Wo [2] (tS h (gK (Bd Jj)))) λh=>Ae q [4] [] (tS h (gK (Lc (Hu [] (Le.refl _ _))))))))))) (match x5,h with | .inl i1,h=>gA (Ae q [1,2,21] [2] (gC h (λh=>Ae q [4] [] (tS h (Be []))) λh=>Ae q jb [] (tL q h jb [] (λu i7=>(Cs u [(Ds 25 i7)] [])) (λu x_=>match x_ with|(.inl _)=>aG Γ (.exit 1) (⟨[],[],[]⟩:St)|(.inr r_)=>aR (Y9 Γ v10 v4 r_)) (λi7 y h=>Ae q [1,23,24,25,26] [] (gC h (λh=>tV q [1,7,23,24,25] [] h λh=>tB h λx9 y9 h=>tT q [1,23,24,25,36] [] [(Z8 x9)] (Mn ((Q10 v10 i7)==false) (c3 (λ(hg:((Q10 v10 i7)==false)=true)=>(Sd (B0 hg y9))) (gI ((Q10 v10 i7)==false)) (Kl (Q10 v10 i7)))) (gC h (λh=>Ae q [4] [] (tS h (gO (Lc (Hu [] (Le.refl _ _)))))) λh=>Ae q jb [] (tN h))) λh=>tS h (gO (Bd (Bk [] [] q))))) λx10 h=>(match x10,h with | .inl _,h=>gA (Ae q [4] [] (tS h (Be []))) | .inr r12,h=>Pu (λst' hk=>tS h (gK hk)))))) | .inr r13,h=>Pu (λst' hk=>tS h (gK hk))))
abbrev cy:=(Int×Ey)
abbrev wQ:=(LR (Int×Ey) Ey)
def Gx(aA:Ey)(i2:Int):cy->Option wQ:=
 λ((i6,l7):cy)=>(bif (decide (i6<((aA.getD i2.toNat []).length:Int))) then(Aw (A0 i6 (aA.getD i2.toNat []).length) (Aw (A0 ((aA.getD i2.toNat []).getD i6.toNat 0) l7.length) (Aw (A0 ((aA.getD i2.toNat []).getD i6.toNat 0) l7.length) (Aw ((l7.getD ((aA.getD i2.toNat []).getD i6.toNat 0).toNat []).length+([i2]:Am).length<=room) (Aw (A0 ((aA.getD i2.toNat []).getD i6.toNat 0) l7.length) (some (.next ((w64 (i6+1)),(l7.set ((aA.getD i2.toNat []).getD i6.toNat 0).toNat ((l7.getD ((aA.getD i2.toNat []).getD i6.toNat 0).toNat [])++([i2]:Am))))))))))) else(some (.done l7)))
def Gy(aA:Ey):cy->Option wQ:=
 λ((i2,l3):cy)=>(bif (decide (i2<(aA.length:Int))) then(Aw (A0 i2 aA.length) ((Ad (Gx aA i2) ((0:Int),l3)).bind (λx14=>(some (.next ((w64 (i2+1)),x14)))))) else(some (.done l3)))
def sR(i2:Int):=([i2]:Am)
def nD(aA:Ey)(i2:Int)(i6:Int):=((aA.getD i2.toNat []).getD i6.toNat 0)
def nZ(l7:Ey)(aA:Ey)(i2:Int)(i6:Int):=(l7.getD (nD aA i2 i6).toNat [])
def wc(aA:Ey):=(List.replicate (aA.length:Int).toNat ([]:Am))
def zB(l7:Ey)(aA:Ey)(i2:Int)(i6:Int):=(l7.set (nD aA i2 i6).toNat ((nZ l7 aA i2 i6)++(sR i2)))
def Q14(aA:Ey):List YK:=[(0,(WT aA)),(3,(.vsl 10 (aA.length:Int).toNat))]
def Q13(l7:Ey)(i2:Int)(aA:Ey)(i6:Int):List YK:=[(3,(.vsl 10 l7.length)),(4,(Az i2)),(11,(WT aA)),(12,(Ve aA.length)),(Ds 13 i2),(18,(AV.list 1 Ax 0 (aA.getD i2.toNat []) .none)),(19,(.int .i64 ((aA.getD i2.toNat []).length:Int))),(Ds 20 i6)]
def Q17(l7:Ey)(i2:Int)(aA:Ey)(i6:Int):List YK:=[(3,(.vsl 10 l7.length)),(4,(Az i2)),(7,(Az (nD aA i2 i6))),(11,(WT aA)),(12,(Ve aA.length)),(Ds 13 i2),(18,(AV.list 1 Ax 0 (aA.getD i2.toNat []) .none)),(19,(.int .i64 ((aA.getD i2.toNat []).length:Int))),(Ds 20 i6)]
def Nu(aA:Ey):Option Ey:=
 (Aw (0<=(aA.length:Int)/\(aA.length:Int)<=(aA.length:Int)/\(aA.length:Int)<=(room:Int)) ((Ad (Gy aA) ((0:Int),(List.replicate (aA.length:Int).toNat ([]:Am)))).bind (λx16=>(some x16))))
variable{v16:Ey}{v17:Ey}
theorem Zk(h:Nu v16=some v17):sP 117 [(WT v16)] [] (ry v17 20000) [(20000,.tok 1 22 v17.length)]:=
 sG Tryz.func117 λΓ q=>have hΓ:=q.own;gR q [0] [] [(2,yh)] [] (c1 (Bi 1 Lg [])) (tV q Ov [10] h λh=>Qi (⟨(Q14 v16),[(10,.arr 1 22 ((v16.length:Int).toNat) (λi_=>AV.eraseAll (λn_=>B3 n_ [10]) ((λ_=>[dN]) i_)))],[]⟩:St) (M6 (Le.trans (Ka (st':=⟨(Q14 v16),[(10,.arr 1 22 ((v16.length:Int).toNat) (Oy 1 Ax (0:Int) (wc v16) (λ_=>.exact)))],[]⟩) (TmpsLe.refl _) (.arr d6 .nil)) (Le.trans (Le.trans (eF (r:=10) (b:=70010) Ax (0:Int) (wc v16) 3 rfl rfl (K3 ..).symm (λh_=>absurd h_ (by decide))) (Ic (st':=⟨(Q14 v16),[(10,.arr 1 22 ((v16.length:Int).toNat) (Oy 1 Ax (0:Int) (wc v16) (Tag.fam 70010)))],[(70010,⟨1,3,Nl (wc v16)⟩)]⟩) (by kernel_rfl))) (Ic (Bx (λk_:Nat=>(⟨[(0,(WT v16)),(3,(.vsl 10 k_))],[(dM 10 k_ (wc v16) 70010)],[(70010,⟨1,3,Nl (wc v16)⟩)]⟩:St)) (show(v16.length:Int).toNat=(wc v16).length from(K3 ..).symm))))) (Ae q VW V7 (tL q h VW V7 (λu (i2,l3)=>(Cs u [(3,(.vsl 10 l3.length)),(Ds 13 i2)] [(dM 10 l3.length l3 70010)] [(70010,⟨1,3,Nl l3⟩)])) (λu l4=>aG Γ (.exit 0) (⟨[(3,(.vsl 10 l4.length))],[(dM 10 l4.length l4 70010)],[(70010,⟨1,3,Nl l4⟩)]⟩:St)) (λ⟨i2,l3⟩ y h=>Ae q [3,11,12,13,14] V7 (gC h (λh=>tV q [3,4,5,11,12,13] V7 h λh=>Ae q k6 V7 (tL q h k6 V7 (λu (i6,l7)=>(Cs u [(3,(.vsl 10 l7.length)),(Ds 20 i6)] [(dM 10 l7.length l7 70010)] [(70010,⟨1,3,Nl l7⟩)])) (λu l8=>aG Γ (.exit 2) (O1 VW V7 u [(3,(.vsl 10 l8.length))] [(dM 10 l8.length l8 70010)] [(70010,⟨1,3,Nl l8⟩)])) (λ⟨i6,l7⟩ y h=>Ae q [3,4,11,12,13,18,19,20,21] V7 (gC h (λh=>tV q [3,4,7,11,12,13,18,19,20] V7 h λh=>Qi (⟨(Q17 l7 i2 v16 i6),[(dM 10 l7.length l7 70010)],[(70010,⟨1,3,Nl l7⟩)]⟩:St) (tC h λc10_ h=>tC h λc11_ h=>tC h λc12_ h=>tC h λc13_ h=>M6 (Le.trans (kM (r:=10) (b:=70010) (k:=60010) Ax (0:Int) l7 (nD v16 i2 i6).toNat 3 rfl rfl rfl rfl (Qq c10_) (by kernel_rfl) (.here .nil)) (Ic (st':=⟨(Q17 l7 i2 v16 i6),[(10,.arr 1 22 l7.length (Oy 1 Ax (0:Int) l7 (Hv 70010 (nD v16 i2 i6).toNat 60010))),(60010,.tok 1 3 ((nZ l7 v16 i2 i6).length))],[(70010,⟨1,3,CR l7 (nD v16 i2 i6).toNat⟩)]⟩) (by kernel_rfl))) (gR q k6 [10,60010,70010] [(29,(WU (nZ l7 v16 i2 i6) 60010)),(31,(AV.list 1 Ax 0 (sR i2) .exact)),(32,(AV.list 1 Ax 0 ((nZ l7 v16 i2 i6)++(sR i2)) (.own 60010)))] [] (d9_ c11_ (Eq.refl l7.length) (show(AVle (((Oy 1 Ax (0:Int) l7 (Hv 70010 (nD v16 i2 i6).toNat 60010)) (nD v16 i2 i6).toNat).getD 0 .any) (WU (nZ l7 v16 i2 i6) 60010)) from YU) (B9 1 Ax (0:Int) (sR i2)) (Eq.refl ((nZ l7 v16 i2 i6).length)) c12_ (Kh 1 60010 Ax (0:Int) (nZ l7 v16 i2 i6) (sR i2)) (Ft (nZ l7 v16 i2 i6) (sR i2)) c13_ (c1 (Eq.refl l7.length))) (Qi (⟨(Q13 l7 i2 v16 i6),[(10,.arr 1 22 l7.length (λi_=>AV.eraseAll (λn_=>B3 n_ [10,60010,70010]) ((E0 (Oy 1 Ax (0:Int) l7 (Hv 70010 (nD v16 i2 i6).toNat 60010)) (nD v16 i2 i6).toNat 0 [(AV.list 1 Ax 0 ((nZ l7 v16 i2 i6)++(sR i2)) (.own 60010))]) i_))),(60010,.tok 1 3 (((nZ l7 v16 i2 i6)++(sR i2)).length))],[(70010,⟨1,3,CR l7 (nD v16 i2 i6).toNat⟩)]⟩:St) (M6 (Le.trans (Le.trans (pW (r:=10) (b:=70010) (k:=60010) Ax (0:Int) l7 (nD v16 i2 i6).toNat ((nZ l7 v16 i2 i6)++(sR i2)) 3 rfl (fL (Qq c10_) rfl rfl) rfl rfl rfl rfl (Qq c10_) (by kernel_rfl) (.here (.tok .nil)) (by rw[hΓ];rfl)) (Ic (st':=⟨(Q13 l7 i2 v16 i6),[(dM 10 l7.length (zB l7 v16 i2 i6) 70010)],[(70010,⟨1,3,Nl (zB l7 v16 i2 i6)⟩)]⟩) (by kernel_rfl))) (Ic (Bx (λk_:Nat=>(⟨[(3,(.vsl 10 k_)),(4,(Az i2)),(11,(WT v16)),(12,(Ve v16.length)),(Ds 13 i2),(18,(AV.list 1 Ax 0 (v16.getD i2.toNat []) .none)),(19,(.int .i64 ((v16.getD i2.toNat []).length:Int))),(Ds 20 i6)],[(dM 10 k_ (zB l7 v16 i2 i6) 70010)],[(70010,⟨1,3,Nl (zB l7 v16 i2 i6)⟩)]⟩:St)) (show l7.length=(zB l7 v16 i2 i6).length from(Cl ..).symm)))) (Ae q k6 V7 (tN h))))))) λh=>tS h (gO (Bd (Bk VW V7 q))))) λx14 h=>gA (Ae q VW V7 (tN h)))) λh=>tS h (gO (Bd (Bk [3] V7 q))))) λx16 h=>gA (Ae q [2] V7 (Qi (⟨[(2,(.vsl 10 x16.length))],[(dM 10 x16.length x16 70010)],[(70010,⟨1,3,Nl x16⟩)]⟩:St) (tS h (gK (e:=.ret) (Hu [(10,20000)] (Le.trans (F0 (nm:=10) (sz:=1) (n:=x16.length) (e:=22) (f:=(Oy 1 Ax (0:Int) x16 (Tag.fam 70010))) (g:=(λi=>Lg (x16.getD i []))) rfl ⟨rfl,trivial⟩ (λ_ _=>rfl) (by rw[hΓ];rfl)) (Bk (st':=⟨[(2,(ry x16 10))],[(10,.tok 1 22 x16.length)],[]⟩) [2] [10] q)))))))))))
def H6(a1:TFunc):cy->Option (LR (Int×Ey) (Ey ⊕ (TGraph×Int))):=
 λ((i3,l4):cy)=>(bif (decide (i3<(a1.Blocks.length:Int))) then(Aw (A0 i3 a1.Blocks.length) ((Pn (⟨(a1.Blocks.getD i3.toNat default).End.Kind,(a1.Blocks.getD i3.toNat default).End.Arg,(a1.Blocks.getD i3.toNat default).End.To⟩:L6) (a1.Blocks.length:Int)).bind λx7=>(bif (!x7) then(some (.done (.inr ((⟨([]:Ey),([]:Ey)⟩:TGraph),(5:Int))))) else((KH ((a1.Blocks.getD i3.toNat default).End.To)).bind λx8=>(Aw (A0 i3 l4.length) (some (.next ((w64 (i3+1)),(l4.set i3.toNat x8))))))))) else(some (.done (.inl l4))))
abbrev nM:=(TGraph×Int)
def gG(Γ:Il)(a1:TFunc)(r:nM):Exit->St->Prop:=fK Tryz.prog Γ Tryz.f89.results.toList [] (.tuple (rx r.1 r.2)) []
def wr:AV:=dN
def yY:List YK:=[V8,(3,nG)]
def Q24(a1:TFunc)(i3:Int):=(a1.Blocks.getD i3.toNat default)
def Q22:AV:=tH
def Q23(a1:TFunc):=(List.replicate (a1.Blocks.length:Int).toNat ([]:Am))
def vj:List AV:=[yh,yh]
def Yg(a1:TFunc):Option nM:=
 ((Mq (a1.Blocks.length:Int)).bind λx1=>(bif (!x1) then(some ((⟨([]:Ey),([]:Ey)⟩:TGraph),(5:Int))) else(Aw (0<=(a1.Blocks.length:Int)/\(a1.Blocks.length:Int)<=(a1.Blocks.length:Int)/\(a1.Blocks.length:Int)<=(room:Int)) ((Ad (H6 a1) ((0:Int),(List.replicate (a1.Blocks.length:Int).toNat ([]:Am)))).bind (λx10=>(match x10 with|(.inl l5)=>((Nu l5).bind λx12=>(some ((⟨l5,x12⟩:TGraph),(0:Int))))|(.inr r13)=>(some r13)))))))
variable{v18:nM}
theorem e8(h:Yg v3=some v18):sP 89 [(XF v3)] [] (.tuple (rx v18.1 v18.2)) []:=
 sG Tryz.func89 λΓ q=>have hΓ:=q.own;tW q Pe Pe [1,2,4] Pe (tB h λx1 y1 h=>tT q [1,2,4,13] Pe [(Z8 x1)] (c1 (Xb y1)) (gC h (λh=>gR q Cn [2] [(14,(.agg vj))] [] (c1 (show(AVle (.agg [wr,wr]) (.agg vj)) from(AVle.agg (.cons He (.cons He .nil))))) (Qi (⟨yY,[(P0 72 vj)],[]⟩:St) (tS h (gK (e:=.ret) (Hu [] (show Le Γ _ (⟨yY,[(PT Q22)],[]⟩:St) from Le.trans (Bk (st':=⟨yY,[(P0 72 vj)],[]⟩) Cn [2] q) (Ka (.cons (AVle.refl _) (.cons (AVle.refl _) .nil)) (.row (.cons AVle.untag (.cons AVle.untag .nil)) .nil)))))))) λh=>tV q [1,2,4,5] [1,2,16] h λh=>by exact M6 (Le.trans (Ss 16 (show ∀ k_,k_<((v3.Blocks.length:Int).toNat)->AVleL ((λi_=>AV.eraseAll (λn_=>B3 n_ [1,2,16]) ((λ_=>[wr]) i_)) k_) ((λi=>Lg ((Q23 v3).getD i [])) k_) from(λk hk=>Mh (e:=Lg) (d:=[]) (.cons (λ_ _ _ _ _ hh=>AVle.untag _ _ _ _ _ (He _ _ _ _ _ hh)) .nil) _ k (Mm hk)))) (Su (λ(k_:Nat) u=>(Cs u [(5,(.vsl 16 k_))] [(16,.arr 1 22 k_ (λi=>Lg ((Q23 v3).getD i [])))])) (show(v3.Blocks.length:Int).toNat=(Q23 v3).length from(K3 ..).symm))) (Ae q ca Wp (tL q h ca Wp (λu (i3,l4)=>(Cs u [(5,(.vsl 16 l4.length)),(Ds 20 i3)] [(16,.arr 1 22 l4.length (λi=>Lg (l4.getD i [])))])) (λu x_=>match x_ with|(.inl l5)=>aG Γ (.exit 0) (O1 Wr Wp u [(5,(.vsl 16 l5.length))] [(16,.arr 1 22 l5.length (λi=>Lg (l5.getD i [])))])|(.inr r_)=>aR (gG Γ v3 r_)) (λ⟨i3,l4⟩ y h=>Ae q [2,4,5,18,19,20,21] Wp (gC h (λh=>tV q [2,4,5,6,7,18,19,20] [2,7,16] h λh=>tB h λx7 y7 h=>tT q [2,4,5,6,7,18,19,20,29] [2,7,16] [(Z8 x7)] (c1 (LW y7)) (gC h (λh=>gR q Cn [2] [(30,(.agg vj))] [] (c1 (show(AVle (.agg [wr,wr]) (.agg vj)) from(AVle.agg (.cons He (.cons He .nil))))) (Qi (⟨yY,[(P0 72 vj)],[]⟩:St) (tS h (gO (Lc (Hu [] (show Le Γ _ (⟨yY,[(PT Q22)],[]⟩:St) from Le.trans (Bk (st':=⟨yY,[(P0 72 vj)],[]⟩) Cn [2] q) (Ka (.cons (AVle.refl _) (.cons (AVle.refl _) .nil)) (.row (.cons AVle.untag (.cons AVle.untag .nil)) .nil))))))))) λh=>tB h λx8 y8 h=>tC h λc9_ h=>tT q ca Wp [⟨[],[],(Rs x8),[],[],[]⟩] (c3 (jH ((Q24 v3 i3).End.To) x8 y8) c9_ (Eq.refl l4.length)) (M6 (Le.trans (Ss 16 (show ∀ k_,k_<l4.length->AVleL ((λi_=>AV.eraseAll (λn_=>B3 n_ Wp) ((E0 (λi=>Lg (l4.getD i [])) i3.toNat 0 [(Rs x8)]) i_)) k_) ((λi=>Lg ((l4.set i3.toNat x8).getD i [])) k_) from(Bc (Cl ..).symm (λk_ hk_=>(Bx (AV.eraseAll (λn_=>B3 n_ Wp)) ((Fs (λ_ _=>rfl) (Gr c9_) rfl) k_ hk_)).trans rfl)))) (Su (λ(k_:Nat) u=>(Cs u [(5,(.vsl 16 k_))] [(16,.arr 1 22 k_ (λi=>Lg ((l4.set i3.toNat x8).getD i [])))])) (show l4.length=(l4.set i3.toNat x8).length from(Cl ..).symm))) (Ae q ca Wp (tN h))))) λh=>tS h (gO (Bd (Bk Wr Wp q))))) λx10 h=>(match x10,h with | .inl l5,h=>gA (Qi (⟨[V8,(5,(.vsl 16 l5.length))],[(PT wr),(16,.arr 1 22 l5.length (λi=>Lg (l5.getD i [])))],[]⟩:St) (M6 (Le.trans (F0 (nm:=16) (sz:=1) (n:=l5.length) (e:=22) (f:=(λi=>Lg (l5.getD i []))) (g:=(λi=>Lg (l5.getD i []))) rfl ⟨rfl,trivial⟩ (λ_ _=>rfl) (by rw[hΓ];rfl)) (Ic (st':=⟨[V8,(5,(ry l5 16))],[(PT wr),(16,.tok 1 22 l5.length)],[]⟩) (by kernel_rfl))) (tB h λx12 y12 h=>tT q Cn [2,16,41] [⟨[],[(20000,41)],(ry x12 20000),[(20000,.tok 1 22 x12.length)],[],[]⟩] (c1 (Zk y12)) (tS h (Be []))))) | .inr r13,h=>Pu (λst' hk=>tS h (gK hk)))))))
def Hx(aA:Ey)(i2:Int):Hs->Option (LR (Int×Int) (Unit ⊕ Bool)):=
 λ((i4,i5):Hs)=>(bif (decide (i5<((aA.getD i2.toNat []).length:Int))) then(Aw (A0 i5 (aA.getD i2.toNat []).length) ((bif ((decide (((aA.getD i2.toNat []).getD i5.toNat 0)<=i4))==false) then Kg ((aA.getD i2.toNat []).getD i5.toNat 0) (aA.length:Int) else some false).bind λx7=>(bif (bif (decide (((aA.getD i2.toNat []).getD i5.toNat 0)<=i4)) then true else(!x7)) then(some (.done (.inr false))) else(some (.next (((aA.getD i2.toNat []).getD i5.toNat 0),(w64 (i5+1)))))))) else(some (.done (.inl ()))))
def Dm(aA:Ey):Int->Option (LR Int (Unit ⊕ Bool)):=
 λ(i2:Int)=>(bif (decide (i2<(aA.length:Int))) then(Aw (A0 i2 aA.length) ((Ad (Hx aA i2) ((-1:Int),(0:Int))).bind (λx8=>(match x8 with|(.inl _)=>(some (.next (w64 (i2+1))))|(.inr r10)=>(some (.done (.inr r10))))))) else(some (.done (.inl ()))))
def Za(Γ:Il)(aA:Ey)(r:Bool):Exit->St->Prop:=fK Tryz.prog Γ Tryz.f158.results.toList [] (.bool r) []
def Q25(aA:Ey)(i2:Int)(i5:Int)(i4:Int):=(decide (((aA.getD i2.toNat []).getD i5.toNat 0)<=i4))
def Po(aA:Ey):Option Bool:=
 ((Mq (aA.length:Int)).bind λx1=>(bif (!x1) then(some false) else((Ad (Dm aA) (0:Int)).bind (λx11=>(match x11 with|(.inl _)=>(some true)|(.inr r13)=>(some r13))))))
theorem LX(h:Po v16=some v5):sP 158 [(WT v16)] [] (.bool v5) []:=
 sG Tryz.func158 λΓ q=>Ae q [0] [] (tB h λx1 y1 h=>tT q [0,11] [] [(Z8 x1)] (c1 (Xb y1)) (gC h (λh=>Ae q [2] [] (tS h (Be []))) λh=>Ae q VX [] (tL q h VX [] (λu i2=>(Cs u [(Ds 14 i2)] [])) (λu x_=>match x_ with|(.inl _)=>aG Γ (.exit 0) (⟨[],[],[]⟩:St)|(.inr r_)=>aR (Za Γ v16 r_)) (λi2 y h=>Ae q [0,12,13,14,15] [] (gC h (λh=>tV q [0,4,12,13,14] [] h λh=>tW q [0,4,5,12,13,14] [] k7 [] (tL q h k7 [] (λu (i4,i5)=>(Cs u [(5,(Az i4)),(Ds 20 i5)] [])) (λu x_=>match x_ with|(.inl _)=>aG Γ (.exit 2) (O1 VX [] u [] [])|(.inr r_)=>aR (Za Γ v16 r_)) (λ⟨i4,i5⟩ y h=>Ae q [0,5,12,13,14,18,19,20,21] [] (gC h (λh=>tV q [0,5,7,12,13,14,18,19,20] [] h λh=>tB h λx7 y7 h=>tT q [0,7,12,13,14,18,19,20,33] [] [(Z8 x7)] (Xu ((Q25 v16 i2 i5 i4)==false) (c3 (λ(hg:((Q25 v16 i2 i5 i4)==false)=true)=>(Sd (B0 hg y7))) (gI ((Q25 v16 i2 i5 i4)==false)) (Kl (Q25 v16 i2 i5 i4)))) (gC h (λh=>Ae q [2] [] (tS h (gO (Lc (Hu [] (Le.refl _ _)))))) λh=>tW q k7 [] k7 [] (tN h))) λh=>tS h (gO (Bd (Bk VX [] q))))) λx8 h=>(match x8,h with | .inl _,h=>gA (Ae q VX [] (tN h)) | .inr r10,h=>Pu (λst' hk=>tS h (gO (Lc hk)))))) λh=>tS h (gO (Bd (Bk [] [] q))))) λx11 h=>(match x11,h with | .inl _,h=>gA (Ae q [2] [] (tS h (Be []))) | .inr r13,h=>Pu (λst' hk=>tS h (gK hk))))))
def E6(aa2:Am)(aa4:Am):Int->Option (LR Int (Unit ⊕ Bool)):=
 λ(i1:Int)=>(bif (decide (i1<(aa2.length:Int))) then(Aw (A0 i1 aa2.length) (Aw (A0 i1 aa4.length) (bif ((aa2.getD i1.toNat 0)!=(aa4.getD i1.toNat 0)) then(some (.done (.inr false))) else(some (.next (w64 (i1+1))))))) else(some (.done (.inl ()))))
def Xw(Γ:Il)(aa2:Am)(aa4:Am)(r:Bool):Exit->St->Prop:=fK Tryz.prog Γ Tryz.f123.results.toList [] (.bool r) []
def G4(aa2:Am)(aa4:Am):Option Bool:=
 (bif ((aa2.length:Int)!=(aa4.length:Int)) then(some false) else((Ad (E6 aa2 aa4) (0:Int)).bind (λx4=>(match x4 with|(.inl _)=>(some true)|(.inr r6)=>(some r6)))))
theorem P7(h:G4 v0 v1=some v5):sP 123 [(Rs v0),(Rs v1)] [] (.bool v5) []:=
 sG Tryz.func123 λΓ q=>tW q Ew [] EQ [] (gC h (λh=>Ae q [4] [] (tS h (Be []))) λh=>Ae q jj [] (tL q h jj [] (λu i1=>(Cs u [(Ds 13 i1)] [])) (λu x_=>match x_ with|(.inl _)=>aG Γ (.exit 0) (⟨[],[],[]⟩:St)|(.inr r_)=>aR (Xw Γ v0 v1 r_)) (λi1 y h=>Ae q [0,1,12,13,14] [] (gC h (λh=>Ae q [0,1,5,12,13] [] (tC h λc2_ h=>tC h λc3_ h=>tU q [0,1,12,13,24] [] (c2 c2_ c3_) (gC h (λh=>Ae q [4] [] (tS h (gO (Lc (Hu [] (Le.refl _ _)))))) λh=>Ae q jj [] (tN h)))) λh=>tS h (gO (Bd (Bk [] [] q))))) λx4 h=>(match x4,h with | .inl _,h=>gA (Ae q [4] [] (tS h (Be []))) | .inr r6,h=>Pu (λst' hk=>tS h (gK hk)))))
def B6(aa2:Ey)(aa4:Ey):Int->Option (LR Int (Unit ⊕ Bool)):=
 λ(i1:Int)=>(bif (decide (i1<(aa2.length:Int))) then(Aw (A0 i1 aa2.length) (Aw (A0 i1 aa4.length) ((G4 (aa2.getD i1.toNat []) (aa4.getD i1.toNat [])).bind λx4=>(bif (!x4) then(some (.done (.inr false))) else(some (.next (w64 (i1+1)))))))) else(some (.done (.inl ()))))
def Ps(Γ:Il)(aa2:Ey)(aa4:Ey)(r:Bool):Exit->St->Prop:=fK Tryz.prog Γ Tryz.f159.results.toList [] (.bool r) []
def Do(aa2:Ey)(aa4:Ey):Option Bool:=
 (bif ((aa2.length:Int)!=(aa4.length:Int)) then(some false) else((Ad (B6 aa2 aa4) (0:Int)).bind (λx5=>(match x5 with|(.inl _)=>(some true)|(.inr r7)=>(some r7)))))
theorem O9(h:Do v16 v17=some v5):sP 159 [(WT v16),(WT v17),(.clo 123 [] [])] [] (.bool v5) []:=
 sG Tryz.func159 λΓ q=>tW q Zy [] [0,1,2,14] [] (gC h (λh=>Ae q [6] [] (tS h (Be []))) λh=>Ae q jU [] (tL q h jU [] (λu i1=>(Cs u [(Ds 17 i1)] [])) (λu x_=>match x_ with|(.inl _)=>aG Γ (.exit 0) (⟨[],[],[]⟩:St)|(.inr r_)=>aR (Ps Γ v16 v17 r_)) (λi1 y h=>Ae q [1,2,15,16,17,18] [] (gC h (λh=>tV q [1,2,7,8,15,16,17] [] h λh=>tV q [1,2,8,9,15,16,17] [] h λh=>tB h λx4 y4 h=>tT q [1,2,15,16,17,30] [] [(Z8 x4)] (c1 (P7 y4)) (gC h (λh=>Ae q [6] [] (tS h (gO (Lc (Hu [] (Le.refl _ _)))))) λh=>Ae q jU [] (tN h))) λh=>tS h (gO (Bd (Bk [] [] q))))) λx5 h=>(match x5,h with | .inl _,h=>gA (Ae q [6] [] (tS h (Be []))) | .inr r7,h=>Pu (λst' hk=>tS h (gK hk)))))
def Vu(a9:TGraph):Option Bool:=
 ((Po a9.Succ).bind λx1=>((bif (x1==true) then Nu a9.Succ else some []).bind λx2=>((bif (x1==true) then Do a9.Pred x2 else some false).bind λx3=>(some (bif x1 then x3 else false)))))
variable{v19:TGraph}
theorem cG(h:Vu v19=some v5):sP 118 [(.agg (X4 v19))] [] (.bool v5) []:=
 sG Tryz.func118 λΓ q=>Ae q [1] [1] (tB h λx1 y1 h=>tB h λx2 y2 h=>tB h λx3 y3 h=>tT q [2] [] [(Z8 x1),⟨[],[],(WT x2),[],[],[]⟩,(Z8 x3)] (ci (LX y1) (Xu (x1==true) (ci (show((x1==true)=true->(sP 117 [(WT v19.Succ)] [] (WT x2) [])) from(λhg=>(Spec.drop (Zk (B0 hg y2))))) (Mn (x1==true) (c2 (λ(hg:(x1==true)=true)=>(O9 (B0 hg y3))) (Nn x1)))))) (tS h (Be [])))
abbrev yU:=(Int×Int×Am)
def Bl :yU->Option (LR (Int×Int×Am) Am):=
 λ((i1,i2,l3):yU)=>(bif (decide (i1<i2)) then(Aw (A0 i2 l3.length) (Aw (A0 i1 l3.length) (Aw (A0 i1 l3.length) (Aw (A0 i2 l3.length) (some (.next ((w64 (i1+1)),(w64 (i2-1)),((l3.set i1.toNat (l3.getD i2.toNat 0)).set i2.toNat (l3.getD i1.toNat 0))))))))) else(some (.done l3)))
def Q26(l3:Am)(i1:Int)(i2:Int):=((l3.set i1.toNat (l3.getD i2.toNat 0)).set i2.toNat (l3.getD i1.toNat 0))
def Fq(aZ:Am):Option Am:=
 ((Ad (S:=yU) (X:=Am) Bl ((0:Int),(w64 ((aZ.length:Int)-1)),aZ)).bind (λx9=>(some x9)))
theorem Oq(h:Fq v0=some v1):sP 120 [(.vsl 34000 v0.length)] [(AU 34000 v0)] (.tuple []) [(AU 34000 v1)]:=
 sG Tryz.func120 λΓ q=>Ae q [0,2,3] [34000] (tL q h [0,2,3] [34000] (λu (i1,i2,l3)=>(Cs u [(0,(.vsl 34000 l3.length)),(2,(Az i1)),(3,(Az i2))] [(AU 34000 l3)])) (λu l4=>aG Γ (.exit 0) (⟨[],[(AU 34000 l4)],[]⟩:St)) (λ⟨i1,i2,l3⟩ y h=>Ae q [0,2,3,9] [34000] (gC h (λh=>tC h λc5_ h=>tC h λc6_ h=>tC h λc7_ h=>tC h λc8_ h=>tU q [0,2,3] [34000] (c8 c5_ (Eq.refl l3.length) c6_ (Eq.refl l3.length) c7_ (Eq.refl l3.length) c8_ (Eq.refl l3.length)) (M6 (Le.trans (Ss 34000 (show ∀ k_,k_<l3.length->AVleL ((λi_=>AV.eraseAll (λn_=>B3 n_ [34000]) ((E0 (E0 (λi=>Ax (l3.getD i 0)) i1.toNat 0 [(.int .i64 (l3.getD i2.toNat 0))]) i2.toNat 0 [(.int .i64 (l3.getD i1.toNat 0))]) i_)) k_) ((λi=>Ax ((Q26 l3 i1 i2).getD i 0)) k_) from(Bc (Eq.trans (Cl ..).symm (Cl ..).symm) (λk_ hk_=>(Bx (AV.eraseAll (λn_=>B3 n_ [34000])) ((Fs (Fs (λ_ _=>rfl) (Gr c7_) rfl) (uK c8_) rfl) k_ hk_)).trans rfl)))) (Su (λ(k_:Nat) u=>(Cs u [(0,(.vsl 34000 k_))] [(34000,.arr 1 3 k_ (λi=>Ax ((Q26 l3 i1 i2).getD i 0)))])) (show l3.length=(Q26 l3 i1 i2).length from(Eq.trans (Cl ..).symm (Cl ..).symm)))) (Ae q [0,2,3] [34000] (tN h)))) λh=>tS h (gO (Bd (Bk [] [34000] q))))) λx9 h=>nH (λst' hl10=>tS h (gK (e:=.normal) (Hu [(34000,34000)] hl10))))
abbrev Abd:=(LR Am (Am ⊕ (List Bool×Am×Am)))
def LH(a9:TGraph)(a7:Int):Am->Option Abd:=
 λ(l9:Am)=>(Aw (A0 ([a7].getD (w64 (([a7].length:Int)-1)).toNat (0:Int)) 64) (Aw (A0 ([a7].getD (w64 (([a7].length:Int)-1)).toNat (0:Int)) a9.Succ.length) (bif (decide ((l9.getD ([a7].getD (w64 (([a7].length:Int)-1)).toNat (0:Int)).toNat (0:Int))<((a9.Succ.getD ([a7].getD (w64 (([a7].length:Int)-1)).toNat (0:Int)).toNat []).length:Int))) then(Aw (A0 ([a7].getD (w64 (([a7].length:Int)-1)).toNat (0:Int)) a9.Succ.length) (Aw (A0 ([a7].getD (w64 (([a7].length:Int)-1)).toNat (0:Int)) 64) (Aw (A0 (l9.getD ([a7].getD (w64 (([a7].length:Int)-1)).toNat (0:Int)).toNat (0:Int)) (a9.Succ.getD ([a7].getD (w64 (([a7].length:Int)-1)).toNat (0:Int)).toNat []).length) (Aw (A0 ([a7].getD (w64 (([a7].length:Int)-1)).toNat (0:Int)) 64) (Aw (A0 ([a7].getD (w64 (([a7].length:Int)-1)).toNat (0:Int)) 64) (Aw (A0 ((a9.Succ.getD ([a7].getD (w64 (([a7].length:Int)-1)).toNat (0:Int)).toNat []).getD (l9.getD ([a7].getD (w64 (([a7].length:Int)-1)).toNat (0:Int)).toNat (0:Int)).toNat (0:Int)) 64) (bif (!((Qh 64 false (List.replicate 64 false) a7.toNat true).getD ((a9.Succ.getD ([a7].getD (w64 (([a7].length:Int)-1)).toNat (0:Int)).toNat []).getD (l9.getD ([a7].getD (w64 (([a7].length:Int)-1)).toNat (0:Int)).toNat (0:Int)).toNat (0:Int)).toNat false)) then(Aw (A0 ((a9.Succ.getD ([a7].getD (w64 (([a7].length:Int)-1)).toNat (0:Int)).toNat []).getD (l9.getD ([a7].getD (w64 (([a7].length:Int)-1)).toNat (0:Int)).toNat (0:Int)).toNat (0:Int)) 64) (Aw ([a7].length+([((a9.Succ.getD ([a7].getD (w64 (([a7].length:Int)-1)).toNat (0:Int)).toNat []).getD (l9.getD ([a7].getD (w64 (([a7].length:Int)-1)).toNat (0:Int)).toNat (0:Int)).toNat (0:Int))]:Am).length<=room) (some (.done (.inr ((Qh 64 false (Qh 64 false (List.replicate 64 false) a7.toNat true) ((a9.Succ.getD ([a7].getD (w64 (([a7].length:Int)-1)).toNat (0:Int)).toNat []).getD (l9.getD ([a7].getD (w64 (([a7].length:Int)-1)).toNat (0:Int)).toNat (0:Int)).toNat (0:Int)).toNat true),(Qh 64 (0:Int) l9 ([a7].getD (w64 (([a7].length:Int)-1)).toNat (0:Int)).toNat (w64 ((l9.getD ([a7].getD (w64 (([a7].length:Int)-1)).toNat (0:Int)).toNat (0:Int))+1))),([a7]++([((a9.Succ.getD ([a7].getD (w64 (([a7].length:Int)-1)).toNat (0:Int)).toNat []).getD (l9.getD ([a7].getD (w64 (([a7].length:Int)-1)).toNat (0:Int)).toNat (0:Int)).toNat (0:Int))]:Am)))))))) else(some (.next (Qh 64 (0:Int) l9 ([a7].getD (w64 (([a7].length:Int)-1)).toNat (0:Int)).toNat (w64 ((l9.getD ([a7].getD (w64 (([a7].length:Int)-1)).toNat (0:Int)).toNat (0:Int))+1)))))))))))) else(some (.done (.inl l9))))))
def Jq(a9:TGraph)(l1:List Bool)(l3:Am):Am->Option Abd:=
 λ(l32:Am)=>(Aw (A0 (l3.getD (w64 ((l3.length:Int)-1)).toNat (0:Int)) 64) (Aw (A0 (l3.getD (w64 ((l3.length:Int)-1)).toNat (0:Int)) a9.Succ.length) (bif (decide ((l32.getD (l3.getD (w64 ((l3.length:Int)-1)).toNat (0:Int)).toNat (0:Int))<((a9.Succ.getD (l3.getD (w64 ((l3.length:Int)-1)).toNat (0:Int)).toNat []).length:Int))) then(Aw (A0 (l3.getD (w64 ((l3.length:Int)-1)).toNat (0:Int)) a9.Succ.length) (Aw (A0 (l3.getD (w64 ((l3.length:Int)-1)).toNat (0:Int)) 64) (Aw (A0 (l32.getD (l3.getD (w64 ((l3.length:Int)-1)).toNat (0:Int)).toNat (0:Int)) (a9.Succ.getD (l3.getD (w64 ((l3.length:Int)-1)).toNat (0:Int)).toNat []).length) (Aw (A0 (l3.getD (w64 ((l3.length:Int)-1)).toNat (0:Int)) 64) (Aw (A0 (l3.getD (w64 ((l3.length:Int)-1)).toNat (0:Int)) 64) (Aw (A0 ((a9.Succ.getD (l3.getD (w64 ((l3.length:Int)-1)).toNat (0:Int)).toNat []).getD (l32.getD (l3.getD (w64 ((l3.length:Int)-1)).toNat (0:Int)).toNat (0:Int)).toNat (0:Int)) 64) (bif (!(l1.getD ((a9.Succ.getD (l3.getD (w64 ((l3.length:Int)-1)).toNat (0:Int)).toNat []).getD (l32.getD (l3.getD (w64 ((l3.length:Int)-1)).toNat (0:Int)).toNat (0:Int)).toNat (0:Int)).toNat false)) then(Aw (A0 ((a9.Succ.getD (l3.getD (w64 ((l3.length:Int)-1)).toNat (0:Int)).toNat []).getD (l32.getD (l3.getD (w64 ((l3.length:Int)-1)).toNat (0:Int)).toNat (0:Int)).toNat (0:Int)) 64) (Aw (l3.length+([((a9.Succ.getD (l3.getD (w64 ((l3.length:Int)-1)).toNat (0:Int)).toNat []).getD (l32.getD (l3.getD (w64 ((l3.length:Int)-1)).toNat (0:Int)).toNat (0:Int)).toNat (0:Int))]:Am).length<=room) (some (.done (.inr ((Qh 64 false l1 ((a9.Succ.getD (l3.getD (w64 ((l3.length:Int)-1)).toNat (0:Int)).toNat []).getD (l32.getD (l3.getD (w64 ((l3.length:Int)-1)).toNat (0:Int)).toNat (0:Int)).toNat (0:Int)).toNat true),(Qh 64 (0:Int) l32 (l3.getD (w64 ((l3.length:Int)-1)).toNat (0:Int)).toNat (w64 ((l32.getD (l3.getD (w64 ((l3.length:Int)-1)).toNat (0:Int)).toNat (0:Int))+1))),(l3++([((a9.Succ.getD (l3.getD (w64 ((l3.length:Int)-1)).toNat (0:Int)).toNat []).getD (l32.getD (l3.getD (w64 ((l3.length:Int)-1)).toNat (0:Int)).toNat (0:Int)).toNat (0:Int))]:Am)))))))) else(some (.next (Qh 64 (0:Int) l32 (l3.getD (w64 ((l3.length:Int)-1)).toNat (0:Int)).toNat (w64 ((l32.getD (l3.getD (w64 ((l3.length:Int)-1)).toNat (0:Int)).toNat (0:Int))+1)))))))))))) else(some (.done (.inl l32))))))
abbrev qz:=(List Bool×Am×Am×Am)
def E3(a9:TGraph):qz->Option (LR (List Bool×Am×Am×Am) Am):=
 λ(s_:qz)=>match s_ with|(l1,l2,l3,l4)=>(Aw (A0 (w64 ((l3.length:Int)-1)) l3.length) ((Ad (Jq a9 l1 l3) l2).bind (λx47=>(match x47 with|(.inl l33)=>(Aw (l4.length+([(l3.getD (w64 ((l3.length:Int)-1)).toNat (0:Int))]:Am).length<=room) (Aw (0<=(w64 ((l3.length:Int)-1))/\0+(w64 ((l3.length:Int)-1)).toNat<=l3.length) (bif (decide ((0:Int)<((l3.take (w64 ((l3.length:Int)-1)).toNat).length:Int))) then(some (.next (l1,l33,(l3.take (w64 ((l3.length:Int)-1)).toNat),(l4++([(l3.getD (w64 ((l3.length:Int)-1)).toNat (0:Int))]:Am))))) else((Fq (l4++([(l3.getD (w64 ((l3.length:Int)-1)).toNat (0:Int))]:Am))).bind λx51=>(Aw ((l4++([(l3.getD (w64 ((l3.length:Int)-1)).toNat (0:Int))]:Am)).length=x51.length) (some (.done x51)))))))|(.inr (l34,l35,l36))=>(some (.next (l34,l35,l36,l4)))))))
def WY(Γ:Il)(a9:TGraph)(a7:Int)(r:Am):Exit->St->Prop:=fK Tryz.prog Γ Tryz.f90.results.toList [] (WU r 20000) [(20000,.tok 1 3 r.length)]
def yb(l1:List Bool):=(λi=>eB (l1.getD i false))
def nE(l3:Am):=(l3.getD (w64 ((l3.length:Int)-1)).toNat (0:Int))
def nv(l4:Am)(l3:Am):=(l4++([(nE l3)]:Am))
def zh(l10:Am):=(λi=>Ax (l10.getD i 0))
def zi(l33:Am):=(λi=>Ax (l33.getD i 0))
def fx:=(λn_=>B3 n_ [2,5,6,25,36007])
def xA(a7:Int):=(λi=>Ax ([a7].getD i 0))
def jr(a7:Int):=([a7].getD (w64 (([a7].length:Int)-1)).toNat (0:Int))
def ru(a7:Int):=(([]:Am)++([(jr a7)]:Am))
def yd(a7:Int):=(λi=>Ax ((ru a7).getD i 0))
def yc(l4:Am)(l3:Am):=(λi=>Ax ((nv l4 l3).getD i 0))
def ya:AV:=oE
def Q37:=(λi=>Ax (([]:Am).getD i 0))
def w9(l3:Am):=(0+(w64 ((l3.length:Int)-1)).toNat)
def yZ(a7:Int):=(0+(w64 (([a7].length:Int)-1)).toNat)
def Q47(a7:Int):=([a7].take (w64 (([a7].length:Int)-1)).toNat)
def Q36:=(λi=>Ax ((List.replicate 64 (0:Int)).getD i 0))
def nr(a9:TGraph):List AV:=[(WT a9.Succ),(WT a9.Pred)]
def vk(a7:Int):=(λi=>eB ((Qh 64 false (List.replicate 64 false) a7.toNat true).getD i false))
def rq(a9:TGraph)(l3:Am)(l32:Am):=((a9.Succ.getD (nE l3).toNat []).getD (l32.getD (nE l3).toNat (0:Int)).toNat (0:Int))
def rp(a9:TGraph)(a7:Int)(l9:Am):=((a9.Succ.getD (jr a7).toNat []).getD (l9.getD (jr a7).toNat (0:Int)).toNat (0:Int))
def Q46:=(Z49:St)
def Q50(a7:Int):List YK:=[V8,RT,RQ,(7,(.vsl 36007 (ru a7).length)),(8,(.vsl 25 (yZ a7)))]
def Q43(a7:Int)(a9:TGraph):=(⟨[V8,RT,RQ,(7,(.vsl 36007 ([]:Am).length)),(8,(.vsl 25 [a7].length)),(9,(Az (jr a7)))],[(P0 72 (nr a9)),(RU (vk a7)),(PU Q36),(25,.arr 1 3 ([a7].length) (xA a7)),(36007,.arr 1 3 (([]:Am).length) Q37)],[]⟩:St)
def K9(a9:TGraph)(a7:Int):Option Am:=
 ((N9 (S:=qz) (X:=Am) ((Vu a9).bind λx5=>((bif ((!x5)==false) then Kg a7 (a9.Succ.length:Int) else some false).bind λx6=>(bif (bif (!x5) then true else(!x6)) then(some (.done ([]:Am))) else(Aw (A0 a7 64) (Aw (A0 (w64 (([a7].length:Int)-1)) [a7].length) ((Ad (LH a9 a7) (List.replicate 64 (0:Int))).bind (λx24=>(match x24 with|(.inl l10)=>(Aw (([]:Am).length+([([a7].getD (w64 (([a7].length:Int)-1)).toNat (0:Int))]:Am).length<=room) (Aw (0<=(w64 (([a7].length:Int)-1))/\0+(w64 (([a7].length:Int)-1)).toNat<=[a7].length) (bif (decide ((0:Int)<(([a7].take (w64 (([a7].length:Int)-1)).toNat).length:Int))) then(some (.next ((Qh 64 false (List.replicate 64 false) a7.toNat true),l10,([a7].take (w64 (([a7].length:Int)-1)).toNat),(([]:Am)++([([a7].getD (w64 (([a7].length:Int)-1)).toNat (0:Int))]:Am))))) else((Fq (([]:Am)++([([a7].getD (w64 (([a7].length:Int)-1)).toNat (0:Int))]:Am))).bind λx28=>(Aw ((([]:Am)++([([a7].getD (w64 (([a7].length:Int)-1)).toNat (0:Int))]:Am)).length=x28.length) (some (.done x28)))))))|(.inr (l11,l12,l13))=>(some (.next (l11,l12,l13,([]:Am)))))))))))) (E3 a9)).bind (λx54=>(some x54)))
theorem DF(h:K9 v19 v4=some v0):sP 90 (rx v19 v4) [] (WU v0 20000) [(20000,.tok 1 3 v0.length)]:=
 sG Tryz.func90 λΓ q=>have hΓ:=q.own;gR q Pe [2] [(4,ya)] [] (c1 (Bi 1 Ax (0:Int))) (tB h λx54 y54 h=>gS y54 (λ(s_:qz)=>match s_ with|(l1,l2,l3,l4)=>0) (λ(s_:qz)=>match s_ with|(l1,l2,l3,l4)=>(⟨[V8,RT,RQ,(Ud 36007 l4.length),(8,(.vsl 25 l3.length))],[(P0 72 (nr v19)),(RU (yb l1)),(Z95 l2),(AU 25 l3),(AU 36007 l4)],[]⟩:St)) (λr_=>aR (WY Γ v19 v4 r_)) (λy h=>tB h λx5 y5 h=>tB h λx6 y6 h=>tT q [1,2,21] [2] [(Z8 x5),(Z8 x6)] (ci (cG y5) (f5 ((!x5)==false) (c3 (λ(hg:((!x5)==false)=true)=>(Sd (B0 hg y6))) (gI ((!x5)==false)) (Kl (!x5))))) (gC h (λh=>gR q [4] [] [(4,ya)] [] (c1 (Bi 1 Ax (0:Int))) (Qi (⟨[(4,ya)],[],[]⟩:St) (tS h (WV (Lc (Hu cl (show Le Γ _ Q46 from Le.trans (Bk (st':=⟨[(4,ya)],[],[]⟩) [4] [] q) (Le.trans (Np (t:=4) (nm:=6004) (sz':=1) Q37 3 rfl rfl (.inl ⟨rfl,rfl⟩) (λh_=>absurd h_ (by decide))) (Bk (st':=Q46) [4] [6004] q))))))))) λh=>gR q Wo Wr [RT] [] trivial (M6 (Ss 5 (show ∀ k_,k_<64->AVleL ((λi_=>AV.eraseAll (λn_=>B3 n_ Wr) ((λi=>(((List.replicate 64 [(.bool false)]).flatten).drop (i*1)).take 1) i_)) k_) ((λi=>eB ((List.replicate 64 false).getD i false)) k_) from(YT (e:=eB) (d:=false) (z:=[(.bool false)]) rfl rfl rfl))) (gR q [1,2,5,6] Xs [RQ] [] trivial (M6 (Ss 6 (show ∀ k_,k_<64->AVleL ((λi_=>AV.eraseAll (λn_=>B3 n_ Xs) ((λi=>(((List.replicate 64 [Pz]).flatten).drop (i*1)).take 1) i_)) k_) (Q36 k_) from(YT (e:=Ax) (d:=(0:Int)) (z:=[Pz]) rfl rfl rfl))) (gR q jd Xs [(7,ya)] [] (c1 (Bi 1 Ax (0:Int))) (tC h λc7_ h=>tU q jd Xs (c2 c7_ (Eq.refl 64)) (M6 (Ss 5 (show ∀ k_,k_<64->AVleL ((λi_=>AV.eraseAll (λn_=>B3 n_ Xs) ((E0 (λi=>eB ((List.replicate 64 false).getD i false)) v4.toNat 0 [(.bool true)]) i_)) k_) ((vk v4) k_) from(Bc rfl (λk_ hk_=>(Bx (AV.eraseAll (λn_=>B3 n_ Xs)) ((Xf (λ_ _=>rfl) (Qq c7_) rfl) k_ hk_)).trans rfl)))) (gR q EP cq [(25,(.vsl 25 1))] [] trivial (M6 (Le.trans (Ss 25 (show ∀ k_,k_<1->AVleL ((λi_=>AV.eraseAll (λn_=>B3 n_ cq) ((λi_=>([(Az v4)].drop (i_*1)).take 1) i_)) k_) ((xA v4) k_) from(Bc rfl (u3 (n:=0) yN rfl)))) (Su (λ(k_:Nat) u=>(Cs u [(8,(.vsl 25 k_))] [(25,.arr 1 3 k_ (xA v4))])) (show 1=[v4].length from rfl))) (tC h λc8_ h=>tU q HA cq (c2 c8_ (Eq.refl ([v4].length))) (M6 (st':=(Q43 v4 v19)) (Le.trans (Bk (st':=⟨[V8,RT,RQ,(7,ya),(8,(.vsl 25 [v4].length)),(9,(Az (jr v4)))],[(P0 72 (nr v19)),(RU (vk v4)),(PU Q36),(25,.arr 1 3 ([v4].length) (xA v4))],[]⟩) HA cq q) (Le.trans (pU (t:=7) (nm:=36007) (sz':=1) Q37 3 rfl rfl) (Bk (st':=(Q43 v4 v19)) HA Kb q))) (tL q h HA Kb (λu l9=>(Cs u [] [(Z95 l9)])) (λu x_=>match x_ with|(.inl l10)=>aG Γ (.exit 0) (Cs u [] [(PU (zh l10))])|(.inr (l11,l12,l13))=>aG Γ (.goto 0) (O1 EP Kb u [(8,(.vsl 25 l13.length))] [(5,.arr 1 164 64 (λi=>eB (l11.getD i false))),(Z95 l12),(AU 25 l13)])) (λl9 y h=>tC h λc14_ h=>tC h λc15_ h=>tU q [2,5,6,7,8,9,41] Kb (c3 c14_ (Eq.refl 64) c15_) (gC h (λh=>tC h λc16_ h=>tC h λc17_ h=>tC h λc18_ h=>tU q cZ Kb (c4 c16_ c17_ (Eq.refl 64) c18_) (tC h λc19_ h=>tC h λc20_ h=>tU q cZ Kb (c4 c19_ (Eq.refl 64) c20_ (Eq.refl 64)) (M6 (Ss 6 (show ∀ k_,k_<64->AVleL ((λi_=>AV.eraseAll fx ((E0 (λi=>Ax (l9.getD i 0)) (jr v4).toNat 0 [(.int .i64 (w64 ((l9.getD (jr v4).toNat (0:Int))+1)))]) i_)) k_) ((λi=>Ax ((Qh 64 (0:Int) l9 (jr v4).toNat (w64 ((l9.getD (jr v4).toNat (0:Int))+1))).getD i 0)) k_) from(Bc rfl (λk_ hk_=>(Bx (AV.eraseAll fx) ((Xf (λ_ _=>rfl) (Qq c20_) rfl) k_ hk_)).trans rfl)))) (tC h λc21_ h=>tU q rY Kb (c2 c21_ (Eq.refl 64)) (gC h (λh=>tC h λc22_ h=>tU q [2,5,6,7,8,10] Kb (c2 c22_ (Eq.refl 64)) (M6 (Ss 5 (show ∀ k_,k_<64->AVleL ((λi_=>AV.eraseAll fx ((E0 (vk v4) (rp v19 v4 l9).toNat 0 [(.bool true)]) i_)) k_) ((λi=>eB ((Qh 64 false (Qh 64 false (List.replicate 64 false) v4.toNat true) (rp v19 v4 l9).toNat true).getD i false)) k_) from(Bc rfl (λk_ hk_=>(Bx (AV.eraseAll fx) ((Xf (λ_ _=>rfl) (Qq c22_) rfl) k_ hk_)).trans rfl)))) (tC h λc23_ h=>gR q EP Kb [(65,(tO (rp v19 v4 l9)))] [] (c3 (B9 1 Ax (0:Int) ([(rp v19 v4 l9)]:Am)) (Eq.refl ([v4].length)) c23_) (tS h (gO (Bd (Le.trans (Le.trans (Ss 25 (show ∀ k_,k_<([v4].length+([(rp v19 v4 l9)]:Am).length)->AVleL ((λi_=>AV.eraseAll fx ((O4 ([v4].length) (xA v4) (λi=>Ax (([(rp v19 v4 l9)]:Am).getD i 0))) i_)) k_) ((λi=>Ax (([v4]++([(rp v19 v4 l9)]:Am)).getD i 0)) k_) from(Bc (Ft _ _) (λk_ hk_=>(Bx (AV.eraseAll fx) ((IQ (λ_ _=>rfl) (λ_ _=>rfl)) k_ hk_)).trans rfl)))) (Su (λ(k_:Nat) u=>(Cs u [(8,(.vsl 25 k_))] [(25,.arr 1 3 k_ (λi=>Ax (([v4]++([(rp v19 v4 l9)]:Am)).getD i 0)))])) (show([v4].length+([(rp v19 v4 l9)]:Am).length)=([v4]++([(rp v19 v4 l9)]:Am)).length from(Ft _ _)))) Jj))))))) λh=>tS h (gN (Bk HA Kb q))))))) λh=>tS h (gO (Bd (Bk HA Kb q))))) λx24 h=>(match x24,h with | .inl l10,h=>gA (tC h λc26_ h=>gR q EP Kb [(69,(tO (jr v4)))] [] (c3 (B9 1 Ax (0:Int) ([(jr v4)]:Am)) (Eq.refl (([]:Am).length)) c26_) (M6 (Le.trans (Ss 36007 (show ∀ k_,k_<(([]:Am).length+([(jr v4)]:Am).length)->AVleL ((λi_=>AV.eraseAll fx ((O4 (([]:Am).length) Q37 (λi=>Ax (([(jr v4)]:Am).getD i 0))) i_)) k_) ((yd v4) k_) from(Bc (Ft _ _) (λk_ hk_=>(Bx (AV.eraseAll fx) ((IQ (λ_ _=>rfl) (λ_ _=>rfl)) k_ hk_)).trans rfl)))) (Su (λ(k_:Nat) u=>(Cs u [(Ud 36007 k_)] [(36007,.arr 1 3 k_ (yd v4))])) (show(([]:Am).length+([(jr v4)]:Am).length)=(ru v4).length from(Ft _ _)))) (tC h λc27_ h=>tU q EP Kb (c1 c27_) (Qi (⟨[V8,RT,RQ,(7,(.vsl 36007 (ru v4).length)),(8,(.vsub 25 [v4].length 0 (yZ v4)))],[(P0 72 (nr v19)),(RU (vk v4)),(PU (zh l10)),(25,.arr 1 3 ([v4].length) (xA v4)),(36007,.arr 1 3 ((ru v4).length) (yd v4))],[]⟩:St) (M6 (Le.trans (Le.trans (eH (t:=8) (r:=25) (k:=(yZ v4)) rfl rfl c27_.2 (by kernel_rfl) (.row (by kernel_rfl) (.arr (λ_=>by kernel_rfl) (.arr (λ_=>by kernel_rfl) (.arr (λ_=>by kernel_rfl) (.arr (λ_=>by kernel_rfl) .nil))))) (by rw[hΓ];rfl)) (Ic (st':=⟨(Q50 v4),[(P0 72 (nr v19)),(RU (vk v4)),(PU (zh l10)),(25,.arr 1 3 (yZ v4) (xA v4)),(36007,.arr 1 3 ((ru v4).length) (yd v4))],[]⟩) (by kernel_rfl))) (Le.trans (Ka (st':=⟨(Q50 v4),[(P0 72 (nr v19)),(RU (vk v4)),(PU (zh l10)),(25,.arr 1 3 (yZ v4) (λi=>Ax ((Q47 v4).getD i 0))),(36007,.arr 1 3 ((ru v4).length) (yd v4))],[]⟩) (TmpsLe.refl _) (.same (.same (.same (.arr (kn (e:=Ax) (d:=(0:Int))) (.same .nil)))))) (Ic (Bx (λk_:Nat=>(⟨[V8,RT,RQ,(7,(.vsl 36007 (ru v4).length)),(8,(.vsl 25 k_))],[(P0 72 (nr v19)),(RU (vk v4)),(PU (zh l10)),(25,.arr 1 3 k_ (λi=>Ax ((Q47 v4).getD i 0))),(36007,.arr 1 3 ((ru v4).length) (yd v4))],[]⟩:St)) (show(yZ v4)=(Q47 v4).length from fb c27_.2))))) (Ae q [2,5,6,7,8,78] Kb (gC h (λh=>tS h (mF (Bk EP Kb q))) λh=>tB h λx28 y28 h=>tC h λc29_ h=>tT q [7] [36007] [⟨[(36007,34000)],[],(.tuple []),[(AU 34000 x28)],[],[]⟩] (c1 (Oq y28)) (M6 (Su (λ(k_:Nat) u=>(Cs u [(Ud 36007 k_)] [])) (show(ru v4).length=x28.length from c29_)) (Ae q [4] [36007] (Qi ((oC 36007 x28.length x28):St) (tS h (WV (Lc (Hu [(36007,20000)] (Le.trans (F0 (nm:=36007) (sz:=1) (n:=x28.length) (e:=3) (f:=(λi=>Ax (x28.getD i 0))) (g:=(λi=>Ax (x28.getD i 0))) rfl ⟨rfl,trivial⟩ (λ_ _=>rfl) (by rw[hΓ];rfl)) (Ic (st':=(oA x28 36007 x28.length)) (by kernel_rfl))))))))))))))))) | .inr ⟨l11,l12,l13⟩,h=>nH (λst' hl30=>tS h (mF (Le.trans hl30 Jj))))))))))))))))) (λ⟨l1,l2,l3,l4⟩ y h=>tC h λc31_ h=>tU q HA Kb (c2 c31_ (Eq.refl l3.length)) (tL q h HA Kb (λu l32=>(Cs u [] [(Z95 l32)])) (λu x_=>match x_ with|(.inl l33)=>aG Γ (.exit 0) (Cs u [] [(PU (zi l33))])|(.inr (l34,l35,l36))=>aG Γ (.goto 0) (O1 EP Kb u [(8,(.vsl 25 l36.length))] [(5,.arr 1 164 64 (λi=>eB (l34.getD i false))),(Z95 l35),(AU 25 l36)])) (λl32 y h=>tC h λc37_ h=>tC h λc38_ h=>tU q [2,5,6,7,8,9,41] Kb (c3 c37_ (Eq.refl 64) c38_) (gC h (λh=>tC h λc39_ h=>tC h λc40_ h=>tC h λc41_ h=>tU q cZ Kb (c4 c39_ c40_ (Eq.refl 64) c41_) (tC h λc42_ h=>tC h λc43_ h=>tU q cZ Kb (c4 c42_ (Eq.refl 64) c43_ (Eq.refl 64)) (M6 (Ss 6 (show ∀ k_,k_<64->AVleL ((λi_=>AV.eraseAll fx ((E0 (λi=>Ax (l32.getD i 0)) (nE l3).toNat 0 [(.int .i64 (w64 ((l32.getD (nE l3).toNat (0:Int))+1)))]) i_)) k_) ((λi=>Ax ((Qh 64 (0:Int) l32 (nE l3).toNat (w64 ((l32.getD (nE l3).toNat (0:Int))+1))).getD i 0)) k_) from(Bc rfl (λk_ hk_=>(Bx (AV.eraseAll fx) ((Xf (λ_ _=>rfl) (Qq c43_) rfl) k_ hk_)).trans rfl)))) (tC h λc44_ h=>tU q rY Kb (c2 c44_ (Eq.refl 64)) (gC h (λh=>tC h λc45_ h=>tU q [2,5,6,7,8,10] Kb (c2 c45_ (Eq.refl 64)) (M6 (Ss 5 (show ∀ k_,k_<64->AVleL ((λi_=>AV.eraseAll fx ((E0 (yb l1) (rq v19 l3 l32).toNat 0 [(.bool true)]) i_)) k_) ((λi=>eB ((Qh 64 false l1 (rq v19 l3 l32).toNat true).getD i false)) k_) from(Bc rfl (λk_ hk_=>(Bx (AV.eraseAll fx) ((Xf (λ_ _=>rfl) (Qq c45_) rfl) k_ hk_)).trans rfl)))) (tC h λc46_ h=>gR q EP Kb [(65,(tO (rq v19 l3 l32)))] [] (c3 (B9 1 Ax (0:Int) ([(rq v19 l3 l32)]:Am)) (Eq.refl l3.length) c46_) (tS h (gO (Bd (Le.trans (Le.trans (Ss 25 (show ∀ k_,k_<(l3.length+([(rq v19 l3 l32)]:Am).length)->AVleL ((λi_=>AV.eraseAll fx ((O4 l3.length (λi=>Ax (l3.getD i 0)) (λi=>Ax (([(rq v19 l3 l32)]:Am).getD i 0))) i_)) k_) ((λi=>Ax ((l3++([(rq v19 l3 l32)]:Am)).getD i 0)) k_) from(Bc (Ft _ _) (λk_ hk_=>(Bx (AV.eraseAll fx) ((IQ (λ_ _=>rfl) (λ_ _=>rfl)) k_ hk_)).trans rfl)))) (Su (λ(k_:Nat) u=>(Cs u [(8,(.vsl 25 k_))] [(25,.arr 1 3 k_ (λi=>Ax ((l3++([(rq v19 l3 l32)]:Am)).getD i 0)))])) (show(l3.length+([(rq v19 l3 l32)]:Am).length)=(l3++([(rq v19 l3 l32)]:Am)).length from(Ft _ _)))) Jj))))))) λh=>tS h (gN (Bk HA Kb q))))))) λh=>tS h (gO (Bd (Bk HA Kb q))))) λx47 h=>(match x47,h with | .inl l33,h=>gA (tC h λc49_ h=>gR q EP Kb [(69,(tO (nE l3)))] [] (c3 (B9 1 Ax (0:Int) ([(nE l3)]:Am)) (Eq.refl l4.length) c49_) (M6 (Le.trans (Ss 36007 (show ∀ k_,k_<(l4.length+([(nE l3)]:Am).length)->AVleL ((λi_=>AV.eraseAll fx ((O4 l4.length (λi=>Ax (l4.getD i 0)) (λi=>Ax (([(nE l3)]:Am).getD i 0))) i_)) k_) ((yc l4 l3) k_) from(Bc (Ft _ _) (λk_ hk_=>(Bx (AV.eraseAll fx) ((IQ (λ_ _=>rfl) (λ_ _=>rfl)) k_ hk_)).trans rfl)))) (Su (λ(k_:Nat) u=>(Cs u [(Ud 36007 k_)] [(36007,.arr 1 3 k_ (yc l4 l3))])) (show(l4.length+([(nE l3)]:Am).length)=(nv l4 l3).length from(Ft _ _)))) (tC h λc50_ h=>tU q EP Kb (c1 c50_) (Qi (⟨[V8,RT,RQ,(7,(.vsl 36007 (nv l4 l3).length)),(8,(.vsub 25 l3.length 0 (w9 l3)))],[(P0 72 (nr v19)),(RU (yb l1)),(PU (zi l33)),(AU 25 l3),(36007,.arr 1 3 ((nv l4 l3).length) (yc l4 l3))],[]⟩:St) (M6 (Le.trans (Le.trans (eH (t:=8) (r:=25) (k:=(w9 l3)) rfl rfl c50_.2 (by kernel_rfl) (.row (by kernel_rfl) (.arr (λ_=>by kernel_rfl) (.arr (λ_=>by kernel_rfl) (.arr (λ_=>by kernel_rfl) (.arr (λ_=>by kernel_rfl) .nil))))) (by rw[hΓ];rfl)) (Ic (st':=⟨[V8,RT,RQ,(7,(.vsl 36007 (nv l4 l3).length)),(8,(.vsl 25 (w9 l3)))],[(P0 72 (nr v19)),(RU (yb l1)),(PU (zi l33)),(25,.arr 1 3 (w9 l3) (λi=>Ax (l3.getD i 0))),(36007,.arr 1 3 ((nv l4 l3).length) (yc l4 l3))],[]⟩) (by kernel_rfl))) (Le.trans (Ka (st':=⟨[V8,RT,RQ,(7,(.vsl 36007 (nv l4 l3).length)),(8,(.vsl 25 (w9 l3)))],[(P0 72 (nr v19)),(RU (yb l1)),(PU (zi l33)),(25,.arr 1 3 (w9 l3) (λi=>Ax ((l3.take (w64 ((l3.length:Int)-1)).toNat).getD i 0))),(36007,.arr 1 3 ((nv l4 l3).length) (yc l4 l3))],[]⟩) (TmpsLe.refl _) (.same (.same (.same (.arr (kn (e:=Ax) (d:=(0:Int))) (.same .nil)))))) (Ic (Bx (λk_:Nat=>(⟨[V8,RT,RQ,(7,(.vsl 36007 (nv l4 l3).length)),(8,(.vsl 25 k_))],[(P0 72 (nr v19)),(RU (yb l1)),(PU (zi l33)),(25,.arr 1 3 k_ (λi=>Ax ((l3.take (w64 ((l3.length:Int)-1)).toNat).getD i 0))),(36007,.arr 1 3 ((nv l4 l3).length) (yc l4 l3))],[]⟩:St)) (show(w9 l3)=(l3.take (w64 ((l3.length:Int)-1)).toNat).length from fb c50_.2))))) (Ae q [2,5,6,7,8,78] Kb (gC h (λh=>tS h (mF (Bk EP Kb q))) λh=>tB h λx51 y51 h=>tC h λc52_ h=>tT q [7] [36007] [⟨[(36007,34000)],[],(.tuple []),[(AU 34000 x51)],[],[]⟩] (c1 (Oq y51)) (M6 (Su (λ(k_:Nat) u=>(Cs u [(Ud 36007 k_)] [])) (show(nv l4 l3).length=x51.length from c52_)) (Ae q [4] [36007] (Qi ((oC 36007 x51.length x51):St) (tS h (WV (Lc (Hu [(36007,20000)] (Le.trans (F0 (nm:=36007) (sz:=1) (n:=x51.length) (e:=3) (f:=(λi=>Ax (x51.getD i 0))) (g:=(λi=>Ax (x51.getD i 0))) rfl ⟨rfl,trivial⟩ (λ_ _=>rfl) (by rw[hΓ];rfl)) (Ic (st':=(oA x51 36007 x51.length)) (by kernel_rfl))))))))))))))))) | .inr ⟨l34,l35,l36⟩,h=>nH (λst' hl53=>tS h (mF (Le.trans hl53 Jj)))))) (Pu (λst' hk=>tS h (gK hk))))
def JK(aM:Int)(aaC:Int):Option Hs:=
 (some ((E1 ((E1 ((E1 ((Oz .u64 aM (32:Int))*(Oz .u64 aaC (32:Int))))+(Oz .u64 (E1 ((E1 ((Oz .u64 aM (32:Int))*(Lq .and .u64 aaC (4294967295:Int))))+(Oz .u64 (E1 ((Lq .and .u64 aM (4294967295:Int))*(Lq .and .u64 aaC (4294967295:Int)))) (32:Int)))) (32:Int))))+(Oz .u64 (E1 ((Lq .and .u64 (E1 ((E1 ((Oz .u64 aM (32:Int))*(Lq .and .u64 aaC (4294967295:Int))))+(Oz .u64 (E1 ((Lq .and .u64 aM (4294967295:Int))*(Lq .and .u64 aaC (4294967295:Int)))) (32:Int)))) (4294967295:Int))+(E1 ((Lq .and .u64 aM (4294967295:Int))*(Oz .u64 aaC (32:Int)))))) (32:Int)))),(E1 (aM*aaC))))
variable{v20:Hs}
theorem XR(h:JK v4 v13=some v20):sP 135 (CD v4 v13) [] (.tuple (CD v20.1 v20.2)) []:=
 sG Tryz.func135 λΓ q=>tW q Ew [] [0,1,6] [] (tU q [0,1,6,7] [] (c1 (show(0<=(32:Int)) from(by decide))) (Ae q [0,1,6,7,8] [] (tU q [0,1,6,7,8,9] [] (c1 (show(0<=(32:Int)) from(by decide))) (Ae q [0,1,6,7,8,9,10] [] (tU q [0,1,6,7,9,11] [] (c1 (show(0<=(32:Int)) from(by decide))) (Ae q [0,1,6,7,9,11,12] [] (tU q [0,1,6,7,9,12,13] [] (c1 (show(0<=(32:Int)) from(by decide))) (Ae q [0,1,7,9,12,13] [] (tU q [0,1,4] [] (c1 (show(0<=(32:Int)) from(by decide))) (Ae q Ow [] (tS h (Be []))))))))))))
def Pw(aM:Int)(aaC:Int):Option Hs:=
 ((JK aM aaC).bind λx1=>(some (x1.1,x1.2)))
theorem DA(h:Pw v4 v13=some v20):sP 103 (CD v4 v13) [] (.tuple (CD v20.1 v20.2)) []:=
 sG Tryz.func103 λΓ q=>Ae q Ew [] (FR false (tB h λx1 y1 h=>tT q So [] [⟨[],[],(.tuple (CD x1.1 x1.2)),[],[],[]⟩] (c1 (XR y1)) (Ae q Ow [] (tS h (Be [])))))
abbrev Xl:=(Int×Am)
abbrev q8:=(LR (Int×Am) Am)
def Db :Xl->Option q8:=
 λ((i7,l8):Xl)=>(bif (decide (i7<(l8.length:Int))) then(Aw (0<=i7/\0+i7.toNat<=l8.length) (Aw (0<=i7/\0+i7.toNat<=l8.length) (some (.next ((w64 (i7+((Nat.min ((0+i7.toNat)-0) (l8.length-(0+i7.toNat))):Int))),(bh l8 (0+i7.toNat) (Nat.min ((0+i7.toNat)-0) (l8.length-(0+i7.toNat))) (λi=>l8.getD (0+i) 0))))))) else(some (.done l8)))
def nw(x3:Hs):=(List.replicate (w64 x3.2).toNat (0:Int))
def Q53(x3:Hs)(aM:Am):=(bh (nw x3) 0 (Nat.min aM.length ((nw x3).length-0)) (λi=>aM.getD i 0))
def Q52(l8:Am)(i7:Int):=(bh l8 (0+i7.toNat) (Nat.min ((0+i7.toNat)-0) (l8.length-(0+i7.toNat))) (λi=>l8.getD (0+i) 0))
def I8(aM:Am)(aa3:Int):Option Am:=
 (Option.bind (α:=Unit) (bif (decide (aa3<0)) then none else(some ())) (λx1=>(match x1 with|_=>((Pw (E1 (aM.length:Int)) (E1 aa3)).bind λx3=>(Option.bind (α:=Unit) (bif (bif (decide ((0:Int)<x3.1)) then true else(decide ((9223372036854775807:Int)<x3.2))) then none else(some ())) (λx4=>(match x4 with|_=>(Aw (0<=(w64 x3.2)/\(w64 x3.2)<=(w64 x3.2)/\(w64 x3.2)<=(room:Int)) ((Ad (S:=Xl) (X:=Am) Db (((Nat.min aM.length ((List.replicate (w64 x3.2).toNat (0:Int)).length-0)):Int),(bh (List.replicate (w64 x3.2).toNat (0:Int)) 0 (Nat.min aM.length ((List.replicate (w64 x3.2).toNat (0:Int)).length-0)) (λi=>aM.getD i 0)))).bind (λx12=>(some x12)))))))))))
theorem Wl(h:I8 v0 v4=some v1):sP 121 [(Rs v0),(Az v4)] [] (.vsl 20000 v1.length) [(AU 20000 v1)]:=
 sG Tryz.func121 λΓ q=>gR q Ew [] [(4,oE)] [] (c1 (Bi 1 Ax (0:Int))) (tB h λx1 y1 h=>gJ y1 (λ_=>aG Γ .normal (⟨[(0,(Rs v0)),(1,(Az v4))],[],[]⟩:St)) (λy h=>Ae q EQ [] (gC h (λh=>nomatch h) λh=>tS h (gK (Bd (Bk Ew [] q))))) (gA (tB h λx3 y3 h=>tT q [0,5,6] [] [⟨[],[],(.tuple (CD x3.1 x3.2)),[],[],[]⟩] (c1 (DA y3)) (tB h λx4 y4 h=>gJ y4 (λ_=>aG Γ .normal (⟨[(0,(Rs v0)),(6,(Ru x3.2))],[],[]⟩:St)) (λy h=>tU q [0,6,26] [] (c2 (gI ((decide ((0:Int)<x3.1))==false)) (Kl (decide ((0:Int)<x3.1)))) (gC h (λh=>nomatch h) λh=>tS h (gK (Bd (Bk [0,6] [] q))))) (gA (tV q [0,7] [30] h λh=>by exact M6 (Le.trans (Ss 30 (show ∀ k_,k_<((w64 x3.2).toNat)->AVleL ((λi_=>AV.eraseAll (λn_=>B3 n_ [30]) ((λ_=>[Pz]) i_)) k_) ((λi=>Ax ((nw x3).getD i 0)) k_) from(λk hk=>Mh (e:=Ax) (d:=(0:Int)) (.cons (AVle.refl _) .nil) _ k (Mm hk)))) (Su (λ(k_:Nat) u=>(Cs u [(Ud 30 k_)] [(30,.arr 1 3 k_ (λi=>Ax ((nw x3).getD i 0)))])) (show(w64 x3.2).toNat=(nw x3).length from(K3 ..).symm))) (tU q Ws [30] (c1 (Eq.refl ((nw x3).length))) (M6 (Le.trans (Ss 30 (show ∀ k_,k_<((nw x3).length)->AVleL ((λi_=>AV.eraseAll (λn_=>B3 n_ [30]) ((dp (λi=>Ax ((nw x3).getD i 0)) 0 (Nat.min v0.length ((nw x3).length-0)) (λi=>Ax (v0.getD i 0))) i_)) k_) ((λi=>Ax ((Q53 x3 v0).getD i 0)) k_) from(Bc (Fx ..) (λk_ hk_=>(Bx (AV.eraseAll (λn_=>B3 n_ [30])) ((EX (e:=Ax) (d:=(0:Int)) (l:=(nw x3)) (s:=(λi=>v0.getD i 0)) (λ_ _=>rfl) (λ_ _=>rfl)) k_ hk_)).trans rfl)))) (Su (λ(k_:Nat) u=>(Cs u [(Ud 30 k_)] [(30,.arr 1 3 k_ (λi=>Ax ((Q53 x3 v0).getD i 0)))])) (show(nw x3).length=(Q53 x3 v0).length from(Fx ..)))) (tL q h Ws [30] (λu (i7,l8)=>(Cs u [(Ud 30 l8.length),(8,(Az i7))] [(AU 30 l8)])) (λu l9=>aG Γ (.exit 0) (⟨[(Ud 30 l9.length)],[(AU 30 l9)],[]⟩:St)) (λ⟨i7,l8⟩ y h=>Ae q [7,8,37] [30] (gC h (λh=>tC h λc10_ h=>tC h λc11_ h=>tU q Ws [30] (c4 c10_ c11_ (Eq.refl l8.length) (Eq.refl l8.length)) (tS h (gN (Le.trans (Le.trans (Ss 30 (show ∀ k_,k_<l8.length->AVleL ((λi_=>AV.eraseAll (λn_=>B3 n_ [30]) ((dp (λi=>Ax (l8.getD i 0)) (0+i7.toNat) (Nat.min ((0+i7.toNat)-0) (l8.length-(0+i7.toNat))) (λi=>(λi=>Ax (l8.getD i 0)) (0+i))) i_)) k_) ((λi=>Ax ((Q52 l8 i7).getD i 0)) k_) from(Bc (Fx ..) (λk_ hk_=>(Bx (AV.eraseAll (λn_=>B3 n_ [30])) ((EX (e:=Ax) (d:=(0:Int)) (l:=l8) (s:=(λi=>l8.getD (0+i) 0)) (λ_ _=>rfl) (λ_ _=>rfl)) k_ hk_)).trans rfl)))) (Su (λ(k_:Nat) u=>(Cs u [(Ud 30 k_)] [(30,.arr 1 3 k_ (λi=>Ax ((Q52 l8 i7).getD i 0)))])) (show l8.length=(Q52 l8 i7).length from(Fx ..)))) Jj)))) λh=>tS h (gO (Bd (Bk [7] [30] q))))) λx12 h=>gA (Ae q [4] [30] (tS h (Be jl))))))))))))
abbrev YJ:=(Int×List Bool)
abbrev q9:=(LR (Int×List Bool) (List Bool))
def K7(aE:Am):YJ->Option q9:=
 λ((i2,l3):YJ)=>(bif (i2 !=-1) then(Aw (A0 i2 l3.length) (Aw (A0 i2 aE.length) (some (.next ((aE.getD i2.toNat 0),(l3.set i2.toNat true)))))) else(some (.done l3)))
def Jk(aE:Am)(l4:List Bool):Int->Option (LR Int Int):=
 λ(i9:Int)=>(Aw (A0 i9 l4.length) (bif (!(l4.getD i9.toNat false)) then(Aw (A0 i9 aE.length) (some (.next (aE.getD i9.toNat 0)))) else(some (.done i9))))
def Sa(aE:Am)(aC:Int)(aD:Int):Option Int:=
 (Aw (0<=(aE.length:Int)/\(aE.length:Int)<=(aE.length:Int)/\(aE.length:Int)<=(room:Int)) ((Ad (K7 aE) (aC,(List.replicate (aE.length:Int).toNat false))).bind (λx7=>((Ad (Jk aE x7) aD).bind (λx13=>(some x13))))))
variable{v21:Int}
theorem OE(h:Sa v0 v4 v13=some v21):sP 160 [(Rs v0),(Az v4),(Az v13)] [] (.int .i64 v21) []:=
 sG Tryz.func160 λΓ q=>Ae q Zy [] (tV q [0,1,2,7] [11] h λh=>by exact M6 (Le.trans (Ss 11 (show ∀ k_,k_<((v0.length:Int).toNat)->AVleL ((λi_=>AV.eraseAll (λn_=>B3 n_ [11]) ((λ_=>[(.bool false)]) i_)) k_) ((λi=>eB ((List.replicate (v0.length:Int).toNat false).getD i false)) k_) from(λk hk=>Mh (e:=eB) (d:=false) (.cons (AVle.refl _) .nil) _ k (Mm hk)))) (Su (λ(k_:Nat) u=>(Cs u [(Ud 11 k_)] [(11,.arr 1 4 k_ (λi=>eB ((List.replicate (v0.length:Int).toNat false).getD i false)))])) (show(v0.length:Int).toNat=(List.replicate (v0.length:Int).toNat false).length from(K3 ..).symm))) (Ae q cu [11] (tL q h cu [11] (λu (i2,l3)=>(Cs u [(Ud 11 l3.length),(8,(Az i2))] [(lf 11 l3)])) (λu l4=>aG Γ (.exit 0) (O1 WM [11] u [(Ud 11 l4.length)] [(lf 11 l4)])) (λ⟨i2,l3⟩ y h=>Ae q [0,2,7,8,14] [11] (gC h (λh=>tC h λc5_ h=>tU q cu [11] (c2 c5_ (Eq.refl l3.length)) (M6 (Le.trans (Ss 11 (show ∀ k_,k_<l3.length->AVleL ((λi_=>AV.eraseAll (λn_=>B3 n_ [11]) ((E0 (λi=>eB (l3.getD i false)) i2.toNat 0 [(.bool true)]) i_)) k_) ((λi=>eB ((l3.set i2.toNat true).getD i false)) k_) from(Bc (Cl ..).symm (λk_ hk_=>(Bx (AV.eraseAll (λn_=>B3 n_ [11])) ((Fs (λ_ _=>rfl) (Gr c5_) rfl) k_ hk_)).trans rfl)))) (Su (λ(k_:Nat) u=>(Cs u [(Ud 11 k_)] [(11,.arr 1 4 k_ (λi=>eB ((l3.set i2.toNat true).getD i false)))])) (show l3.length=(l3.set i2.toNat true).length from(Cl ..).symm))) (tV q cu [11] h λh=>tN h))) λh=>tS h (gO (Bd (Bk WM [11] q))))) λx7 h=>gA (tL q h WM [11] (λu i9=>(Cs u [(2,(Az i9))] [])) (λu i10=>aG Γ (.exit 2) (⟨[(2,(Az i10))],[],[]⟩:St)) (λi9 y h=>tC h λc11_ h=>tU q [0,2,7,26] [11] (c2 c11_ (Eq.refl x7.length)) (gC h (λh=>tV q WM [11] h λh=>tN h) λh=>tS h (gO (Bd (Bk [2] [] q))))) λx13 h=>gA (Ae q [6] [] (tS h (Be [])))))))
set_option maxRecDepth 100000
set_option maxHeartbeats 2000000
def F4(aE:Am)(aJ:Am):Hs->Option sE:=
 λ((i1,i2):Hs)=>(bif (decide (i2<(aJ.length:Int))) then(Option.bind (α:=Int) (Aw (A0 i2 aJ.length) (Aw (A0 (aJ.getD i2.toNat 0) aE.length) (bif ((aE.getD (aJ.getD i2.toNat 0).toNat (0:Int))==-2) then(some i1) else(bif (i1==-2) then(some (aJ.getD i2.toNat 0)) else((Sa aE i1 (aJ.getD i2.toNat 0)).bind λx7=>(some x7)))))) (λx8=>(some (.next (x8,(w64 (i2+1))))))) else(some (.done i1)))
def M5(aE:Am)(aJ:Am):Option Int:=
 ((Ad (F4 aE aJ) ((-2:Int),(0:Int))).bind (λx10=>(some x10)))
theorem DD(h:M5 v0 v1=some v4):sP 122 [(Rs v0),(Rs v1)] [] (.int .i64 v4) []:=
 sG Tryz.func122 λΓ q=>tW q Ew [] L5 [] (Ae q NE [] (tL q h NE [] (λu (i1,i2)=>(Cs u [(5,(Az i1)),(Ds 10 i2)] [])) (λu i3=>aG Γ (.exit 0) (⟨[(5,(Az i3))],[],[]⟩:St)) (λ⟨i1,i2⟩ y h=>Ae q [0,5,8,9,10,11] [] (gC h (λh=>tB h λx8 y8 h=>gJ y8 (λi4=>aG Γ .normal (⟨[(0,(Rs v0)),(5,(Az i4)),(8,(Rs v1)),(9,(Ve v1.length)),(Ds 10 i2)],[],[]⟩:St)) (λy h=>tV q [0,5,7,8,9,10] [] h λh=>tV q [0,5,7,8,9,10,18] [] h λh=>gC h (λh=>tS h (gK (Bd (Bk NE [] q)))) λh=>Ae q [0,5,7,8,9,10,24] [] (gC h (λh=>Ae q NE [] (tS h (gK (Bd Jj)))) λh=>tB h λx7 y7 h=>tT q NE [] [(XD x7)] (c1 (OE y7)) (tS h (gK (Bd Jj))))) (gA (Ae q NE [] (tN h)))) λh=>tS h (gO (Bd (Bk [5] [] q))))) λx10 h=>gA (Ae q [4] [] (tS h (Be [])))))
abbrev vX:=(Bool×Int×Am)
abbrev Abe:=(LR (Bool×Int×Am) (Bool×Am))
abbrev rA:=(Bool×Am)
def Fk(a9:TGraph)(x3:Am):vX->Option Abe:=
 λ((b7,i8,l9):vX)=>(bif (decide (i8<((x3.drop (1:Int).toNat).length:Int))) then(Option.bind (α:=rA) (Aw (A0 i8 (x3.drop (1:Int).toNat).length) (Aw (A0 ((x3.drop (1:Int).toNat).getD i8.toNat 0) a9.Pred.length) ((M5 l9 (a9.Pred.getD ((x3.drop (1:Int).toNat).getD i8.toNat 0).toNat [])).bind λx16=>(Aw (A0 ((x3.drop (1:Int).toNat).getD i8.toNat 0) l9.length) (bif (x16 !=(l9.getD ((x3.drop (1:Int).toNat).getD i8.toNat 0).toNat (0:Int))) then(Aw (A0 ((x3.drop (1:Int).toNat).getD i8.toNat 0) l9.length) (some (true,(l9.set ((x3.drop (1:Int).toNat).getD i8.toNat 0).toNat x16)))) else(some (b7,l9))))))) (λ(b12,l13)=>(some (.next (b12,(w64 (i8+1)),l13))))) else(some (.done (b7,l9))))
def Wb(a9:TGraph)(l1:Am):vX->Option Abe:=
 λ((b24,i25,l26):vX)=>(bif (decide (i25<((l1.drop (1:Int).toNat).length:Int))) then(Option.bind (α:=rA) (Aw (A0 i25 (l1.drop (1:Int).toNat).length) (Aw (A0 ((l1.drop (1:Int).toNat).getD i25.toNat 0) a9.Pred.length) ((M5 l26 (a9.Pred.getD ((l1.drop (1:Int).toNat).getD i25.toNat 0).toNat [])).bind λx33=>(Aw (A0 ((l1.drop (1:Int).toNat).getD i25.toNat 0) l26.length) (bif (x33 !=(l26.getD ((l1.drop (1:Int).toNat).getD i25.toNat 0).toNat (0:Int))) then(Aw (A0 ((l1.drop (1:Int).toNat).getD i25.toNat 0) l26.length) (some (true,(l26.set ((l1.drop (1:Int).toNat).getD i25.toNat 0).toNat x33)))) else(some (b24,l26))))))) (λ(b29,l30)=>(some (.next (b29,(w64 (i25+1)),l30))))) else(some (.done (b24,l26))))
abbrev rB:=(Am×Am)
def H3(a9:TGraph):rB->Option (LR (Am×Am) Am):=
 λ(s_:rB)=>match s_ with|(l1,l2)=>(Aw (0<=(1:Int)/\(1:Int)<=(l1.length:Int)) ((Ad (Wb a9 l1) (false,(0:Int),l2)).bind (λx38=>(match x38 with|(b27,l28)=>(bif b27 then(some (.next (l1,l28))) else(some (.done l28)))))))
def gE(Γ:Il)(a9:TGraph)(aa5:Int)(r:Am):Exit->St->Prop:=fK Tryz.prog Γ Tryz.f91.results.toList [] (WU r 20000) [(20000,.tok 1 3 r.length)]
def ye:=(λn_=>B3 n_ [2,13,21])
def Q56:List YK:=[(4,oE)]
def Q55(x3:Am)(i8:Int):=((x3.drop (1:Int).toNat).getD i8.toNat 0)
def Q54(l1:Am)(i25:Int):=((l1.drop (1:Int).toNat).getD i25.toNat 0)
def Q57(a9:TGraph):List AV:=[(WT a9.Succ),(WT a9.Pred)]
def Q59:=(Z49:St)
def Ut(a9:TGraph)(aa5:Int):Option Am:=
 ((N9 (S:=rB) (X:=Am) ((K9 a9 aa5).bind λx3=>(bif ((x3.length:Int)==0) then(some (.done ([]:Am))) else((I8 ([(-2:Int)]:Am) (a9.Succ.length:Int)).bind λx4=>(Aw (A0 aa5 x4.length) (Aw (0<=(1:Int)/\(1:Int)<=(x3.length:Int)) ((Ad (Fk a9 x3) (false,(0:Int),(x4.set aa5.toNat (-1:Int)))).bind (λ(b10,l11)=>(bif b10 then(some (.next (x3,l11))) else(some (.done l11)))))))))) (H3 a9)).bind (λx40=>(some x40)))
theorem e7(h:Ut v19 v4=some v0):sP 91 (rx v19 v4) [] (WU v0 20000) [(20000,.tok 1 3 v0.length)]:=
 sG Tryz.func91 λΓ q=>have hΓ:=q.own;gR q Pe [2] Q56 [] (c1 (Bi 1 Ax (0:Int))) (tB h λx40 y40 h=>gS y40 (λ(s_:rB)=>match s_ with|(l1,l2)=>0) (λ(s_:rB)=>match s_ with|(l1,l2)=>(⟨[V8,(5,(WU l1 13)),(6,(.vsl 21 l2.length))],[(P0 72 (Q57 v19)),(13,.tok 1 3 l1.length),(AU 21 l2)],[]⟩:St)) (λr_=>aR (gE Γ v19 v4 r_)) (λy h=>tB h λx3 y3 h=>tT q Wo [2,13] [(Z69 13 x3 x3.length)] (c1 (DF y3)) (Ae q [1,2,5,16] [2,13] (gC h (λh=>gR q [4] [] Q56 [] (c1 (Bi 1 Ax (0:Int))) (Qi (⟨Q56,[],[]⟩:St) (tS h (WV (Lc (Hu cl (show Le Γ _ Q59 from Le.trans (Bk (st':=⟨Q56,[],[]⟩) [4] [] q) (Le.trans (Np (t:=4) (nm:=6004) (sz':=1) (λi=>Ax (([]:Am).getD i 0)) 3 rfl rfl (.inl ⟨rfl,rfl⟩) (λh_=>absurd h_ (by decide))) (Bk (st':=Q59) [4] [6004] q))))))))) λh=>tB h λx4 y4 h=>gR q [1,2,5,6] Kc [(17,(AV.list 1 Ax 0 ([(-2:Int)]:Am) .exact))] [⟨[],[(20000,21)],(.vsl 20000 x4.length),[(AU 20000 x4)],[],[]⟩] (c2 (B9 1 Ax (0:Int) ([(-2:Int)]:Am)) (Wl y4)) (tC h λc5_ h=>tU q Xs Kc (c2 c5_ (Eq.refl x4.length)) (M6 (Le.trans (Ss 21 (show ∀ k_,k_<x4.length->AVleL ((λi_=>AV.eraseAll ye ((E0 (λi=>Ax (x4.getD i 0)) v4.toNat 0 [(.int .i64 (-1:Int))]) i_)) k_) ((λi=>Ax ((x4.set v4.toNat (-1:Int)).getD i 0)) k_) from(Bc (Cl ..).symm (λk_ hk_=>(Bx (AV.eraseAll ye) ((Fs (λ_ _=>rfl) (Gr c5_) rfl) k_ hk_)).trans rfl)))) (Su (λ(k_:Nat) u=>(Cs u [(6,(.vsl 21 k_))] [(21,.arr 1 3 k_ (λi=>Ax ((x4.set v4.toNat (-1:Int)).getD i 0)))])) (show x4.length=(x4.set v4.toNat (-1:Int)).length from(Cl ..).symm))) (Ae q NJ Kc (tC h λc6_ h=>gR q GZ Kc [(26,(AV.list 1 Ax 0 (x3.drop (1:Int).toNat) .none))] [] (c2 c6_ (show(AVle (z7 x3) (AV.list 1 Ax 0 (x3.drop (1:Int).toNat) .none)) from IR)) (tL q h GZ Kc (λu (b7,i8,l9)=>(Cs u [(6,(.vsl 21 l9.length)),(7,(.bool b7)),(Ds 28 i8)] [(AU 21 l9)])) (λu (b10,l11)=>aG Γ (.exit 0) (O1 NJ Kc u [(6,(.vsl 21 l11.length)),(7,(.bool b10))] [(AU 21 l11)])) (λ⟨b7,i8,l9⟩ y h=>Ae q rS Kc (gC h (λh=>tB h λx19 y19 h=>gJ y19 (λ(b12,l13)=>aG Γ .normal (⟨[V8,(5,(WU x3 13)),(6,(.vsl 21 l13.length)),(7,(.bool b12)),(26,(AV.list 1 Ax 0 (x3.drop (1:Int).toNat) .none)),(27,(.int .i64 ((x3.drop (1:Int).toNat).length:Int))),(Ds 28 i8)],[(P0 72 (Q57 v19)),(13,.tok 1 3 x3.length),(AU 21 l13)],[]⟩:St)) (λy h=>tV q rT Kc h λh=>tC h λc15_ h=>tB h λx16 y16 h=>tT q rQ Kc [⟨[],[],(Az x16),[],[21],[]⟩] (c4 c15_ (DD y16) (show(NW []) from trivial) (Eq.refl l9.length)) (tC h λc17_ h=>tU q rO Kc (c2 c17_ (Eq.refl l9.length)) (gC h (λh=>tC h λc18_ h=>tU q GZ Kc (c2 c18_ (Eq.refl l9.length)) (tS h (gK (Bd (Le.trans (Le.trans (Ss 21 (show ∀ k_,k_<l9.length->AVleL ((λi_=>AV.eraseAll ye ((E0 (λi=>Ax (l9.getD i 0)) (Q55 x3 i8).toNat 0 [(Az x16)]) i_)) k_) ((λi=>Ax ((l9.set (Q55 x3 i8).toNat x16).getD i 0)) k_) from(Bc (Cl ..).symm (λk_ hk_=>(Bx (AV.eraseAll ye) ((Fs (λ_ _=>rfl) (Gr c18_) rfl) k_ hk_)).trans rfl)))) (Su (λ(k_:Nat) u=>(Cs u [(6,(.vsl 21 k_))] [(21,.arr 1 3 k_ (λi=>Ax ((l9.set (Q55 x3 i8).toNat x16).getD i 0)))])) (show l9.length=(l9.set (Q55 x3 i8).toNat x16).length from(Cl ..).symm))) Jj))))) λh=>tS h (gK (Bd (Bk GZ Kc q)))))) (match x19,h with|⟨b12,l13⟩,h=>gA (Ae q GZ Kc (tN h)))) λh=>tS h (gO (Bd (Bk NJ Kc q))))) λx21 h=>(match x21,h with|⟨b10,l11⟩,h=>gA (Ae q [2,5,6,50] Kc (gC h (λh=>tS h (mF (Bk Xs Kc q))) λh=>Ae q [4] [21] (Qi ((oC 21 l11.length l11):St) (tS h (WV (Lc (Hu [(21,20000)] (Le.trans (F0 (nm:=21) (sz:=1) (n:=l11.length) (e:=3) (f:=(λi=>Ax (l11.getD i 0))) (g:=(λi=>Ax (l11.getD i 0))) rfl ⟨rfl,trivial⟩ (λ_ _=>rfl) (by rw[hΓ];rfl)) (Ic (st':=(oA l11 21 l11.length)) (by kernel_rfl))))))))))))))))))) (λ⟨l1,l2⟩ y h=>Ae q NJ Kc (tC h λc23_ h=>gR q GZ Kc [(26,(AV.list 1 Ax 0 (l1.drop (1:Int).toNat) .none))] [] (c2 c23_ (show(AVle (z7 l1) (AV.list 1 Ax 0 (l1.drop (1:Int).toNat) .none)) from IR)) (tL q h GZ Kc (λu (b24,i25,l26)=>(Cs u [(6,(.vsl 21 l26.length)),(7,(.bool b24)),(Ds 28 i25)] [(AU 21 l26)])) (λu (b27,l28)=>aG Γ (.exit 0) (O1 NJ Kc u [(6,(.vsl 21 l28.length)),(7,(.bool b27))] [(AU 21 l28)])) (λ⟨b24,i25,l26⟩ y h=>Ae q rS Kc (gC h (λh=>tB h λx36 y36 h=>gJ y36 (λ(b29,l30)=>aG Γ .normal (⟨[V8,(5,(WU l1 13)),(6,(.vsl 21 l30.length)),(7,(.bool b29)),(26,(AV.list 1 Ax 0 (l1.drop (1:Int).toNat) .none)),(27,(.int .i64 ((l1.drop (1:Int).toNat).length:Int))),(Ds 28 i25)],[(P0 72 (Q57 v19)),(13,.tok 1 3 l1.length),(AU 21 l30)],[]⟩:St)) (λy h=>tV q rT Kc h λh=>tC h λc32_ h=>tB h λx33 y33 h=>tT q rQ Kc [⟨[],[],(Az x33),[],[21],[]⟩] (c4 c32_ (DD y33) (show(NW []) from trivial) (Eq.refl l26.length)) (tC h λc34_ h=>tU q rO Kc (c2 c34_ (Eq.refl l26.length)) (gC h (λh=>tC h λc35_ h=>tU q GZ Kc (c2 c35_ (Eq.refl l26.length)) (tS h (gK (Bd (Le.trans (Le.trans (Ss 21 (show ∀ k_,k_<l26.length->AVleL ((λi_=>AV.eraseAll ye ((E0 (λi=>Ax (l26.getD i 0)) (Q54 l1 i25).toNat 0 [(Az x33)]) i_)) k_) ((λi=>Ax ((l26.set (Q54 l1 i25).toNat x33).getD i 0)) k_) from(Bc (Cl ..).symm (λk_ hk_=>(Bx (AV.eraseAll ye) ((Fs (λ_ _=>rfl) (Gr c35_) rfl) k_ hk_)).trans rfl)))) (Su (λ(k_:Nat) u=>(Cs u [(6,(.vsl 21 k_))] [(21,.arr 1 3 k_ (λi=>Ax ((l26.set (Q54 l1 i25).toNat x33).getD i 0)))])) (show l26.length=(l26.set (Q54 l1 i25).toNat x33).length from(Cl ..).symm))) Jj))))) λh=>tS h (gK (Bd (Bk GZ Kc q)))))) (match x36,h with|⟨b29,l30⟩,h=>gA (Ae q GZ Kc (tN h)))) λh=>tS h (gO (Bd (Bk NJ Kc q))))) λx38 h=>(match x38,h with|⟨b27,l28⟩,h=>gA (Ae q [2,5,6,50] Kc (gC h (λh=>tS h (mF (Bk Xs Kc q))) λh=>Ae q [4] [21] (Qi ((oC 21 l28.length l28):St) (tS h (WV (Lc (Hu [(21,20000)] (Le.trans (F0 (nm:=21) (sz:=1) (n:=l28.length) (e:=3) (f:=(λi=>Ax (l28.getD i 0))) (g:=(λi=>Ax (l28.getD i 0))) rfl ⟨rfl,trivial⟩ (λ_ _=>rfl) (by rw[hΓ];rfl)) (Ic (st':=(oA l28 21 l28.length)) (by kernel_rfl)))))))))))))) (Pu (λst' hk=>tS h (gK hk))))
def Py(aQ:List Ff)(aaG:Am):Int->Option (LR Int (Unit ⊕ Bool)):=
 λ(i1:Int)=>(bif (decide (i1<(aQ.length:Int))) then(Aw (A0 i1 aQ.length) ((G4 ((aQ.getD i1.toNat default).From) aaG).bind λx3=>(bif (bif (!x3) then true else((((aQ.getD i1.toNat default).Args).length:Int)!=(aaG.length:Int))) then(some (.done (.inr false))) else(some (.next (w64 (i1+1))))))) else(some (.done (.inl ()))))
def PL(Γ:Il)(aQ:List Ff)(aaG:Am)(r:Bool):Exit->St->Prop:=fK Tryz.prog Γ Tryz.f92.results.toList [] (.bool r) []
def Pl(aQ:List Ff)(aaG:Am):Option Bool:=
 ((Ad (Py aQ aaG) (0:Int)).bind (λx4=>(match x4 with|(.inl _)=>(some true)|(.inr r6)=>(some r6))))
theorem LS(h:Pl v7 v0=some v5):sP 92 [(AV.list 4 W0 default v7 .none),(Rs v0)] [] (.bool v5) []:=
 sG Tryz.func92 λΓ q=>tW q Ew [] Ng [] (tL q h Ng [] (λu i1=>(Cs u [(9,(Az i1))] [])) (λu x_=>match x_ with|(.inl _)=>aG Γ (.exit 0) (⟨[],[],[]⟩:St)|(.inr r_)=>aR (PL Γ v7 v0 r_)) (λi1 y h=>Ae q PI [] (gC h (λh=>tV q PJ [6] h λh=>tB h λx3 y3 h=>tT q [1,7,8,9,25] [] [(Z8 x3)] (ci (P7 y3) (wC ((!x3)==false) (c1 (Kl (!x3))))) (gC h (λh=>Ae q [4] [] (tS h (gO (Lc (Hu [] (Le.refl _ _)))))) λh=>Ae q Ng [] (tN h))) λh=>tS h (gO (Bd (Bk [] [] q))))) λx4 h=>(match x4,h with | .inl _,h=>gA (Ae q [4] [] (tS h (Be []))) | .inr r6,h=>Pu (λst' hk=>tS h (gK hk))))
def Q60(aL:L6):=(bif (aL.Kind==0) then true else(aL.Kind==2))
def Pk(aL:L6):Option Bool:=
 (some (bif (bif (aL.Kind==0) then true else(aL.Kind==2)) then true else(aL.Arg==0)))
theorem LQ(h:Pk v10=some v5):sP 93 [(.agg (du v10))] [] (.bool v5) []:=
 sG Tryz.func93 λΓ q=>Ae q [1] [1] (tU q [2] [] (Mn ((v10.Kind==0)==false) (ci (Kl (v10.Kind==0)) (Mn ((Q60 v10)==false) (c1 (Kl (Q60 v10)))))) (tS h (Be [])))
def Dj(a6:TFunc)(aB:Int)(a3:List Bj)(x1:nM)(x3:Am):Int->Option (LR Int (Unit ⊕ (Int×TFunc×Int×Am×List Bj))):=
 λ(i4:Int)=>(bif (decide (i4<(a6.Blocks.length:Int))) then(Aw (A0 i4 a6.Blocks.length) (Aw (A0 i4 x1.1.Pred.length) ((Pl ((a6.Blocks.getD i4.toNat default).Phis) (x1.1.Pred.getD i4.toNat [])).bind λx7=>((bif ((!x7)==false) then Pk (⟨(a6.Blocks.getD i4.toNat default).End.Kind,(a6.Blocks.getD i4.toNat default).End.Arg,(a6.Blocks.getD i4.toNat default).End.To⟩:L6) else some false).bind λx8=>(bif (bif (!x7) then true else(!x8)) then(some (.done (.inr ((5:Int),a6,aB,x3,a3)))) else(some (.next (w64 (i4+1))))))))) else(some (.done (.inl ()))))
def Xv(Γ:Il)(a6:TFunc)(aB:Int)(a2:Am)(a3:List Bj)(r:m9):Exit->St->Prop:=fK Tryz.prog Γ Tryz.f72.results.toList (Z3 a6.Params a6.Ret a6.Blocks aB a2 a3 a3.length) (Az r.1) (Z3 r.2.1.Params r.2.1.Ret r.2.1.Blocks r.2.2.1 r.2.2.2.1 r.2.2.2.2 r.2.2.2.2.length)
def Q63(x1:nM):=((x1.2 !=0)==false)
def Q62(x3:Am)(a6:TFunc)(aB:Int)(a3:List Bj):List Vf:=[(31,.tok 1 3 x3.length),(30000,.row 109 [(Rs a6.Params),(Az a6.Ret),(bX a6.Blocks),(Az aB),(Rs x3),.nilm,(AV.list 5 Ol default a3 (.own 37006))]),(Ni 37006 152 a3.length)]
def Q61(x3:Am)(a6:TFunc)(aB:Int)(a3:List Bj):List Vf:=[(31,.tok 1 3 x3.length),(30000,.row 109 [(Rs a6.Params),(Az a6.Ret),(bX a6.Blocks),(Az aB),(WU x3 31),.nilm,(AV.list 5 Ol default a3 (.own 37006))]),(Ni 37006 152 a3.length)]
def Je(a6:TFunc)(aB:Int)(a2:Am)(a3:List Bj):Option m9:=
 ((Yg a6).bind λx1=>((bif ((x1.2 !=0)==false) then K9 x1.1 (0:Int) else some []).bind λx2=>(bif (bif (x1.2 !=0) then true else(decide ((x2.length:Int)<(a6.Blocks.length:Int)))) then(some ((5:Int),a6,aB,a2,a3)) else((Ut x1.1 (0:Int)).bind λx3=>((Ad (Dj a6 aB a3 x1 x3) (0:Int)).bind (λx9=>(match x9 with|(.inl _)=>(some ((0:Int),a6,aB,x3,a3))|(.inr r11)=>(some r11))))))))
theorem W8(h:Je v3 v4 v0 v14=some v15):sP 72 ER (Z3 v3.Params v3.Ret v3.Blocks v4 v0 v14 v14.length) (Az v15.1) (Z3 v15.2.1.Params v15.2.1.Ret v15.2.1.Blocks v15.2.2.1 v15.2.2.2.1 v15.2.2.2.2 v15.2.2.2.2.length):=
 sG Tryz.func72 λΓ q=>Ae q [0] D4 (tB h λx1 y1 h=>tT q Ik VT [(n7 x1.1 x1.2)] (c1 (e8 y1)) (tB h λx2 y2 h=>tT q [0,3,28] VT [⟨[],[],(Rs x2),[],[],[]⟩] (KO (gI (Q63 x1)) (show((Q63 x1)=true->(sP 90 [(.agg (X4 x1.1)),Pz] [] (Rs x2) [])) from(λhg=>(Spec.drop (DF (B0 hg y2))))) (gI8 (Q63 x1) (c1 (Kl (x1.2 !=0))))) (gC h (λh=>Ae q [2] D4 (tS h (Be Zv))) λh=>tB h λx3 y3 h=>tT q Ov bJ [(Z69 31 x3 x3.length)] (c1 (e7 y3)) (Ae q je bJ (tL q h je bJ (λu i4=>(Cs u [(Ds 40 i4)] [])) (λu x_=>match x_ with|(.inl _)=>aG Γ (.exit 0) (O1 [] bL u [] [])|(.inr r_)=>aR (Xv Γ v3 v4 v0 v14 r_)) (λi4 y h=>Ae q [3,38,39,40,41] bJ (gC h (λh=>tV q [3,5,6,38,39,40] [3,6,31,30000,37006] h λh=>tC h λc6_ h=>tB h λx7 y7 h=>tB h λx8 y8 h=>tT q [3,38,39,40,59] bJ [(Z8 x7),(Z8 x8)] (KO c6_ (LS y7) (Mn ((!x7)==false) (c3 (λ(hg:((!x7)==false)=true)=>(LQ (B0 hg y8))) (gI ((!x7)==false)) (Kl (!x7))))) (gC h (λh=>Ae q [2] bL (Qi (⟨[(2,nG)],(Q61 x3 v3 v4 v14),[]⟩:St) (tS h (gO (Lc (Hu Zv (show Le Γ _ (⟨[(2,nG)],(Q62 x3 v3 v4 v14),[]⟩:St) from Le.trans (Bk (st':=⟨[(2,nG)],(Q61 x3 v3 v4 v14),[]⟩) [2] bL q) (Ka (.cons (AVle.refl _) .nil) (.same (.row (.cons (AVle.refl _) (.cons (AVle.refl _) (.cons (AVle.refl _) (.cons (AVle.refl _) (.cons AVle.untag (.cons (AVle.refl _) (.cons (AVle.refl _) .nil))))))) (.same .nil))))))))))) λh=>Ae q je bJ (tN h))) λh=>tS h (gO (Bd (Bk [] bL q))))) λx9 h=>(match x9,h with | .inl _,h=>gA (Ae q [2] bL (Qi (⟨[(2,Pz)],(Q61 x3 v3 v4 v14),[]⟩:St) (tS h (gK (e:=.ret) (Hu Zv (show Le Γ _ (⟨[(2,Pz)],(Q62 x3 v3 v4 v14),[]⟩:St) from Le.trans (Bk (st':=⟨[(2,Pz)],(Q61 x3 v3 v4 v14),[]⟩) [2] bL q) (Ka (.cons (AVle.refl _) .nil) (.same (.row (.cons (AVle.refl _) (.cons (AVle.refl _) (.cons (AVle.refl _) (.cons (AVle.refl _) (.cons AVle.untag (.cons (AVle.refl _) (.cons (AVle.refl _) .nil))))))) (.same .nil)))))))))) | .inr r11,h=>Pu (λst' hk=>tS h (gK hk))))))))
def Ep(aH:Int):Option Bool:=
 (Option.bind (α:=Bool) (bif (aH==1) then(some (aH==1)) else(bif (aH==8) then(some (aH==8)) else(bif (aH==16) then(some (aH==16)) else(bif (aH==32) then(some (aH==32)) else(some (aH==64)))))) (λx2=>(bif x2 then(some true) else(some false))))
theorem Gl(h:Ep v4=some v5):sP 79 [(Az v4)] [] (.bool v5) []:=
 sG Tryz.func79 λΓ q=>tW q [0] [] [3] [] (tB h λx2 y2 h=>gJ y2 (λb1=>aG Γ .normal (⟨[(4,(.bool b1))],[],[]⟩:St)) (λy h=>Ae q Vc [] (gC h (λh=>tS h (gK (Bd (Bk [4] [] q)))) λh=>Ae q Vc [] (gC h (λh=>tS h (gK (Bd (Bk [4] [] q)))) λh=>Ae q Vc [] (gC h (λh=>tS h (gK (Bd (Bk [4] [] q)))) λh=>Ae q Vc [] (gC h (λh=>tS h (gK (Bd (Bk [4] [] q)))) λh=>Ae q [4] [] (tS h (gK (Bd Jj)))))))) (gA (gC h (λh=>Ae q [2] [] (tS h (Be []))) λh=>Ae q [2] [] (tS h (Be [])))))
def Px(aJ:Am):Int->Option (LR Int (Unit ⊕ Bool)):=
 λ(i1:Int)=>(bif (decide (i1<(aJ.length:Int))) then(Aw (A0 i1 aJ.length) ((Ep (aJ.getD i1.toNat 0)).bind λx3=>(bif (!x3) then(some (.done (.inr false))) else(some (.next (w64 (i1+1))))))) else(some (.done (.inl ()))))
def PK(Γ:Il)(aJ:Am)(r:Bool):Exit->St->Prop:=fK Tryz.prog Γ Tryz.f94.results.toList [] (.bool r) []
def Pj(aJ:Am):Option Bool:=
 ((Ad (Px aJ) (0:Int)).bind (λx4=>(match x4 with|(.inl _)=>(some true)|(.inr r6)=>(some r6))))
theorem LP(h:Pj v0=some v5):sP 94 [(Rs v0),(.clo 79 [] [])] [] (.bool v5) []:=
 sG Tryz.func94 λΓ q=>tW q Ew [] Ng [] (tL q h Ng [] (λu i1=>(Cs u [(9,(Az i1))] [])) (λu x_=>match x_ with|(.inl _)=>aG Γ (.exit 0) (⟨[],[],[]⟩:St)|(.inr r_)=>aR (PK Γ v0 r_)) (λi1 y h=>Ae q PI [] (gC h (λh=>tV q PJ [] h λh=>tB h λx3 y3 h=>tT q WS [] [(Z8 x3)] (c1 (Gl y3)) (gC h (λh=>Ae q [4] [] (tS h (gO (Lc (Hu [] (Le.refl _ _)))))) λh=>Ae q Ng [] (tN h))) λh=>tS h (gO (Bd (Bk [] [] q))))) λx4 h=>(match x4,h with | .inl _,h=>gA (Ae q [4] [] (tS h (Be []))) | .inr r6,h=>Pu (λst' hk=>tS h (gK hk))))
def R9(aa9:Ff):Option Bool:=
 ((Ep aa9.Bits).bind λx1=>(some x1))
theorem JQ(h:R9 v6=some v5):sP 125 [(.agg (W0 v6))] [] (.bool v5) []:=
 sG Tryz.func125 λΓ q=>Ae q [1] [1] (tB h λx1 y1 h=>tT q [2] [] [(Z8 x1)] (c1 (Gl y1)) (tS h (Be [])))
def Mb(aJ:List Ff):Int->Option (LR Int (Unit ⊕ Bool)):=
 λ(i1:Int)=>(bif (decide (i1<(aJ.length:Int))) then(Aw (A0 i1 aJ.length) ((R9 (aJ.getD i1.toNat default)).bind λx3=>(bif (!x3) then(some (.done (.inr false))) else(some (.next (w64 (i1+1))))))) else(some (.done (.inl ()))))
def FO(Γ:Il)(aJ:List Ff)(r:Bool):Exit->St->Prop:=fK Tryz.prog Γ Tryz.f124.results.toList [] (.bool r) []
def Ll(aJ:List Ff):Option Bool:=
 ((Ad (Mb aJ) (0:Int)).bind (λx4=>(match x4 with|(.inl _)=>(some true)|(.inr r6)=>(some r6))))
theorem DB(h:Ll v7=some v5):sP 124 [(AV.list 4 W0 default v7 .none),(.clo 125 [] [])] [] (.bool v5) []:=
 sG Tryz.func124 λΓ q=>tW q Ew [] Ng [] (tL q h Ng [] (λu i1=>(Cs u [(9,(Az i1))] [])) (λu x_=>match x_ with|(.inl _)=>aG Γ (.exit 0) (⟨[],[],[]⟩:St)|(.inr r_)=>aR (FO Γ v7 r_)) (λi1 y h=>Ae q PI [] (gC h (λh=>tV q PJ [6] h λh=>tB h λx3 y3 h=>tT q WS [] [(Z8 x3)] (c1 (JQ y3)) (gC h (λh=>Ae q [4] [] (tS h (gO (Lc (Hu [] (Le.refl _ _)))))) λh=>Ae q Ng [] (tN h))) λh=>tS h (gO (Bd (Bk [] [] q))))) λx4 h=>(match x4,h with | .inl _,h=>gA (Ae q [4] [] (tS h (Be []))) | .inr r6,h=>Pu (λst' hk=>tS h (gK hk))))
def Sw(aP:Int):Option Bool:=
 (some (bif (decide ((0:Int)<=aP)) then(decide (aP<=22)) else false))
theorem TT(h:Sw v4=some v5):sP 169 [(Az v4)] [] (.bool v5) []:=
 sG Tryz.func169 λΓ q=>Ae q [0] [] (tU q [2] [] (c2 (gI ((decide ((0:Int)<=v4))==true)) (Nn (decide ((0:Int)<=v4)))) (tS h (Be [])))
def Q64(x5:Bool)(aH:Int):=(bif x5 then(decide ((8:Int)<=aH)) else false)
def T4(aH:Int)(aV:Int):Option Bool:=
 (bif (aV==1) then((Ep aH).bind λx1=>(some x1)) else(Option.bind (α:=Bool) (bif (aV==2) then(some (aV==2)) else(bif (aV==4) then(some (aV==4)) else(bif (aV==8) then(some (aV==8)) else(some (aV==16))))) (λx3=>(bif x3 then((Ep aH).bind λx5=>(some (bif (bif x5 then(decide ((8:Int)<=aH)) else false) then(decide (((w64 (aH*aV)):Int)<=128)) else false))) else(some false)))))
theorem XZ(h:T4 v4 v13=some v5):sP 170 [(Az v4),(Az v13)] [] (.bool v5) []:=
 sG Tryz.func170 λΓ q=>tW q Ew [] L5 [] (Ae q [0,1,5,6] [] (gC h (λh=>tB h λx1 y1 h=>tT q [4] [] [(Z8 x1)] (c1 (Gl y1)) (tS h (Be []))) λh=>tB h λx3 y3 h=>gJ y3 (λb2=>aG Γ .normal (⟨[(0,(Az v4)),(1,(Az v13)),(10,(.bool b2))],[],[]⟩:St)) (λy h=>Ae q [0,1,5,10] [] (gC h (λh=>tS h (gK (Bd (Bk EQ [] q)))) λh=>Ae q [0,1,5,10] [] (gC h (λh=>tS h (gK (Bd (Bk EQ [] q)))) λh=>Ae q [0,1,5,10] [] (gC h (λh=>tS h (gK (Bd (Bk EQ [] q)))) λh=>Ae q EQ [] (tS h (gK (Bd Jj))))))) (gA (gC h (λh=>tB h λx5 y5 h=>tT q [4] [] [(Z8 x5)] (dq (Gl y5) (gI (x5==true)) (Nn x5) (Xu ((Q64 x5 v4)==true) (c1 (Nn (Q64 x5 v4))))) (tS h (Be []))) λh=>Ae q [4] [] (tS h (Be []))))))
def Q65(a0:C5):List Vf:=[(Z85 a0.Kind a0.Bits a0.Lanes a0.Dst a0.Args a0.Imm)]
def Od(a0:C5):Option Bool:=
 (Option.bind (α:=Bool) (bif (a0.Kind==16) then(some (a0.Kind==16)) else(some (a0.Kind==17))) (λx2=>(bif x2 then(some (decide ((8:Int)<=a0.Bits))) else(Option.bind (α:=Bool) (bif (a0.Kind==18) then(some (a0.Kind==18)) else(some (a0.Kind==19))) (λx5=>(bif x5 then(some (bif (decide ((8:Int)<=a0.Bits)) then(a0.Lanes==1) else false)) else(Option.bind (α:=Bool) (bif (a0.Kind==4) then(some (a0.Kind==4)) else(bif (a0.Kind==10) then(some (a0.Kind==10)) else(bif (a0.Kind==11) then(some (a0.Kind==11)) else(bif (a0.Kind==12) then(some (a0.Kind==12)) else(bif (a0.Kind==14) then(some (a0.Kind==14)) else(bif (a0.Kind==15) then(some (a0.Kind==15)) else(some (a0.Kind==20)))))))) (λx8=>(bif x8 then(some (a0.Lanes==1)) else(Option.bind (α:=Bool) (bif (a0.Kind==21) then(some (a0.Kind==21)) else(some (a0.Kind==22))) (λx11=>(bif x11 then(some (decide ((1:Int)<a0.Lanes))) else(some true)))))))))))))
theorem JS(h:Od v8=some v5):sP 171 [(IM v8)] [] (.bool v5) []:=
 sG Tryz.func171 λΓ q=>tW q [1] [1] R4 [1] (tB h λx2 y2 h=>gJ y2 (λb1=>aG Γ .normal (⟨[FZ,(4,(Az v8.Kind)),(5,(.bool b1))],(Q65 v8),[]⟩:St)) (λy h=>Ae q [1,4,5] [1] (gC h (λh=>tS h (gK (Bd Jj))) λh=>Ae q [1,4,5] [1] (tS h (gK (Bd Jj))))) (gA (gC h (λh=>Ae q [2] [] (tS h (Be []))) λh=>tB h λx5 y5 h=>gJ y5 (λb4=>aG Γ .normal (⟨[FZ,(4,(Az v8.Kind)),(11,(.bool b4))],(Q65 v8),[]⟩:St)) (λy h=>Ae q [1,4,11] [1] (gC h (λh=>tS h (gK (Bd Jj))) λh=>Ae q [1,4,11] [1] (tS h (gK (Bd Jj))))) (gA (gC h (λh=>tU q [2] [] (Mn ((decide ((8:Int)<=v8.Bits))==true) (c1 (Nn (decide ((8:Int)<=v8.Bits))))) (tS h (Be []))) λh=>tB h λx8 y8 h=>gJ y8 (λb7=>aG Γ .normal (⟨[FZ,(4,(Az v8.Kind)),(22,(.bool b7))],(Q65 v8),[]⟩:St)) (λy h=>Ae q ID [1] (gC h (λh=>tS h (gK (Bd Jj))) λh=>Ae q ID [1] (gC h (λh=>tS h (gK (Bd Jj))) λh=>Ae q ID [1] (gC h (λh=>tS h (gK (Bd Jj))) λh=>Ae q ID [1] (gC h (λh=>tS h (gK (Bd Jj))) λh=>Ae q ID [1] (gC h (λh=>tS h (gK (Bd Jj))) λh=>Ae q ID [1] (gC h (λh=>tS h (gK (Bd Jj))) λh=>Ae q ID [1] (tS h (gK (Bd Jj)))))))))) (gA (gC h (λh=>Ae q [2] [] (tS h (Be []))) λh=>tB h λx11 y11 h=>gJ y11 (λb10=>aG Γ .normal (⟨[FZ,(33,(.bool b10))],(Q65 v8),[]⟩:St)) (λy h=>Ae q [1,4,33] [1] (gC h (λh=>tS h (gK (Bd (Bk [1,33] [1] q)))) λh=>Ae q [1,33] [1] (tS h (gK (Bd Jj))))) (gA (gC h (λh=>Ae q [2] [] (tS h (Be []))) λh=>Ae q [2] [] (tS h (Be [])))))))))))
def Fc(aK:Int)(aH:Int):Option Int:=
 ((Ep aH).bind λx1=>(bif (!x1) then(some (0:Int)) else(Aw (0<=(w64 ((64:Int)-aH))) (Aw (0<=(w64 ((64:Int)-aH))) (some (Oz .u64 (Tq .u64 aK (w64 ((64:Int)-aH))) (w64 ((64:Int)-aH))))))))
theorem N4(h:Fc v4 v13=some v21):sP 60 [(Ru v4),(Az v13)] [] (.int .u64 v21) []:=
 sG Tryz.func60 λΓ q=>Ae q Ew [] (tB h λx1 y1 h=>tT q [0,1,7] [] [(Z8 x1)] (c1 (Gl y1)) (gC h (λh=>Ae q [4] [] (tS h (Be []))) λh=>tC h λc2_ h=>tC h λc3_ h=>tU q [4] [] (c2 c2_ c3_) (tS h (Be []))))
def Nw(aaH:Int):Option Bool:=
 ((bif ((decide (aaH<=64))==true) then Ep (w64 aaH) else some false).bind λx1=>(some (bif (decide (aaH<=64)) then x1 else false)))
theorem Zm(h:Nw v4=some v5):sP 190 [(Ru v4)] [] (.bool v5) []:=
 sG Tryz.func190 λΓ q=>Ae q [0] [] (tB h λx1 y1 h=>tT q [2] [] [(Z8 x1)] (Mn ((decide (v4<=64))==true) (c2 (λ(hg:((decide (v4<=64))==true)=true)=>(Gl (B0 hg y1))) (Nn (decide (v4<=64))))) (tS h (Be [])))
def Q2(a0:C5):Option Bool:=
 (bif (a0.Kind==0) then((Fc a0.Imm a0.Bits).bind λx1=>(some (x1==a0.Imm))) else(bif (a0.Kind==14) then((Nw a0.Imm).bind λx2=>(some (bif x2 then(decide (a0.Imm<(E1 a0.Bits))) else false))) else(bif (a0.Kind==15) then((Nw a0.Imm).bind λx3=>(some (bif x3 then(decide (((E1 a0.Bits):Int)<a0.Imm)) else false))) else(bif (a0.Kind==22) then(some (decide (a0.Imm<(E1 a0.Lanes)))) else(some (a0.Imm==0))))))
theorem QD(h:Q2 v8=some v5):sP 172 [(IM v8)] [] (.bool v5) []:=
 sG Tryz.func172 λΓ q=>tW q [1] [1] R4 [1] (Ae q [1,4,5] [1] (gC h (λh=>tB h λx1 y1 h=>tT q [2] [] [(XC x1)] (c1 (N4 y1)) (tS h (Be []))) λh=>Ae q [1,4,15] [1] (gC h (λh=>tB h λx2 y2 h=>tT q [2] [] [(Z8 x2)] (ci (Zm y2) (wC (x2==true) (c1 (Nn x2)))) (tS h (Be []))) λh=>Ae q [1,4,28] [1] (gC h (λh=>tB h λx3 y3 h=>tT q [2] [] [(Z8 x3)] (ci (Zm y3) (wC (x3==true) (c1 (Nn x3)))) (tS h (Be []))) λh=>Ae q [1,41] [1] (gC h (λh=>Ae q [2] [] (tS h (Be []))) λh=>Ae q [2] [] (tS h (Be [])))))))
abbrev MP:=((Int×Int))
abbrev rC:=(List (Int×Int))
def Jb(aaL:List MP):Option rC:=
 (some aaL)
variable{v22:List MP}{v23:List MP}
theorem Jl(h:Jb v22=some v23):sP 175 [(tK v22)] [] (tK v23) []:=
 sG Tryz.func175 λΓ q=>gR q [0] [] [(2,Z55)] [] (c1 (Bi 2 Bs ((0:Int),(0:Int)))) (Ae q [2] [] (tS h (Be [])))
abbrev yV:=(Int×List (Int×Int))
def Da :yV->Option (LR (Int×List (Int×Int)) (List (Int×Int))):=
 λ((i7,l8):yV)=>(bif (decide (i7<(l8.length:Int))) then(Aw (0<=i7/\0+i7.toNat<=l8.length) (Aw (0<=i7/\0+i7.toNat<=l8.length) (some (.next ((w64 (i7+((Nat.min ((0+i7.toNat)-0) (l8.length-(0+i7.toNat))):Int))),(bh l8 (0+i7.toNat) (Nat.min ((0+i7.toNat)-0) (l8.length-(0+i7.toNat))) (λi=>l8.getD (0+i) ((0:Int),(0:Int))))))))) else(some (.done l8)))
def ny(x3:Hs):=(List.replicate (w64 x3.2).toNat ((0:Int),(0:Int)))
def Q68(x3:Hs)(aM:List MP):=(bh (ny x3) 0 (Nat.min aM.length ((ny x3).length-0)) (λi=>aM.getD i ((0:Int),(0:Int))))
def Q67(l8:List MP)(i7:Int):=(bh l8 (0+i7.toNat) (Nat.min ((0+i7.toNat)-0) (l8.length-(0+i7.toNat))) (λi=>l8.getD (0+i) ((0:Int),(0:Int))))
def Ce(aM:List MP)(aa3:Int):Option rC:=
 (Option.bind (α:=Unit) (bif (decide (aa3<0)) then none else(some ())) (λx1=>(match x1 with|_=>((Pw (E1 (aM.length:Int)) (E1 aa3)).bind λx3=>(Option.bind (α:=Unit) (bif (bif (decide ((0:Int)<x3.1)) then true else(decide ((9223372036854775807:Int)<x3.2))) then none else(some ())) (λx4=>(match x4 with|_=>(Aw (0<=(w64 x3.2)/\(w64 x3.2)<=(w64 x3.2)/\(w64 x3.2)<=(room:Int)) ((Ad (S:=yV) (X:=List Hs) Da (((Nat.min aM.length ((List.replicate (w64 x3.2).toNat ((0:Int),(0:Int))).length-0)):Int),(bh (List.replicate (w64 x3.2).toNat ((0:Int),(0:Int))) 0 (Nat.min aM.length ((List.replicate (w64 x3.2).toNat ((0:Int),(0:Int))).length-0)) (λi=>aM.getD i ((0:Int),(0:Int)))))).bind (λx12=>(some x12)))))))))))
theorem Tn(h:Ce v22 v4=some v23):sP 176 [(tK v22),(Az v4)] [] (xM v23 20000) [(20000,.tok 2 63 v23.length)]:=
 sG Tryz.func176 λΓ q=>have hΓ:=q.own;gR q Ew [] [(4,Z55)] [] (c1 (Bi 2 Bs ((0:Int),(0:Int)))) (tB h λx1 y1 h=>gJ y1 (λ_=>aG Γ .normal (⟨[(0,(tK v22)),(1,(Az v4))],[],[]⟩:St)) (λy h=>Ae q EQ [] (gC h (λh=>nomatch h) λh=>tS h (gK (Bd (Bk Ew [] q))))) (gA (tB h λx3 y3 h=>tT q [0,5,6] [] [⟨[],[],(.tuple (CD x3.1 x3.2)),[],[],[]⟩] (c1 (DA y3)) (tB h λx4 y4 h=>gJ y4 (λ_=>aG Γ .normal (⟨[(0,(tK v22)),(6,(Ru x3.2))],[],[]⟩:St)) (λy h=>tU q [0,6,26] [] (c2 (gI ((decide ((0:Int)<x3.1))==false)) (Kl (decide ((0:Int)<x3.1)))) (gC h (λh=>nomatch h) λh=>tS h (gK (Bd (Bk [0,6] [] q))))) (gA (tV q [0,7] [30] h λh=>by exact M6 (Le.trans (Ss 30 (show ∀ k_,k_<((w64 x3.2).toNat)->AVleL ((λi_=>AV.eraseAll (λn_=>B3 n_ [30]) ((λ_=>[Pz,Pz]) i_)) k_) ((λi=>Bs ((ny x3).getD i ((0:Int),(0:Int)))) k_) from(λk hk=>Mh (e:=Bs) (d:=((0:Int),(0:Int))) (.cons (AVle.refl _) (.cons (AVle.refl _) .nil)) _ k (Mm hk)))) (Su (λ(k_:Nat) u=>(Cs u [(Ud 30 k_)] [(30,.arr 2 63 k_ (λi=>Bs ((ny x3).getD i ((0:Int),(0:Int)))))])) (show(w64 x3.2).toNat=(ny x3).length from(K3 ..).symm))) (tU q Ws [30] (c1 (Eq.refl ((ny x3).length))) (M6 (Le.trans (Ss 30 (show ∀ k_,k_<((ny x3).length)->AVleL ((λi_=>AV.eraseAll (λn_=>B3 n_ [30]) ((dp (λi=>Bs ((ny x3).getD i ((0:Int),(0:Int)))) 0 (Nat.min v22.length ((ny x3).length-0)) (λi=>Bs (v22.getD i ((0:Int),(0:Int))))) i_)) k_) ((λi=>Bs ((Q68 x3 v22).getD i ((0:Int),(0:Int)))) k_) from(Bc (Fx ..) (λk_ hk_=>(Bx (AV.eraseAll (λn_=>B3 n_ [30])) ((EX (e:=Bs) (d:=((0:Int),(0:Int))) (l:=(ny x3)) (s:=(λi=>v22.getD i ((0:Int),(0:Int)))) (λ_ _=>rfl) (λ_ _=>rfl)) k_ hk_)).trans rfl)))) (Su (λ(k_:Nat) u=>(Cs u [(Ud 30 k_)] [(30,.arr 2 63 k_ (λi=>Bs ((Q68 x3 v22).getD i ((0:Int),(0:Int)))))])) (show(ny x3).length=(Q68 x3 v22).length from(Fx ..)))) (tL q h Ws [30] (λu (i7,l8)=>(Cs u [(Ud 30 l8.length),(8,(Az i7))] (xD l8))) (λu l9=>aG Γ (.exit 0) (⟨[(Ud 30 l9.length)],(xD l9),[]⟩:St)) (λ⟨i7,l8⟩ y h=>Ae q [7,8,37] [30] (gC h (λh=>tC h λc10_ h=>tC h λc11_ h=>tU q Ws [30] (c4 c10_ c11_ (Eq.refl l8.length) (Eq.refl l8.length)) (tS h (gN (Le.trans (Le.trans (Ss 30 (show ∀ k_,k_<l8.length->AVleL ((λi_=>AV.eraseAll (λn_=>B3 n_ [30]) ((dp (λi=>Bs (l8.getD i ((0:Int),(0:Int)))) (0+i7.toNat) (Nat.min ((0+i7.toNat)-0) (l8.length-(0+i7.toNat))) (λi=>(λi=>Bs (l8.getD i ((0:Int),(0:Int)))) (0+i))) i_)) k_) ((λi=>Bs ((Q67 l8 i7).getD i ((0:Int),(0:Int)))) k_) from(Bc (Fx ..) (λk_ hk_=>(Bx (AV.eraseAll (λn_=>B3 n_ [30])) ((EX (e:=Bs) (d:=((0:Int),(0:Int))) (l:=l8) (s:=(λi=>l8.getD (0+i) ((0:Int),(0:Int)))) (λ_ _=>rfl) (λ_ _=>rfl)) k_ hk_)).trans rfl)))) (Su (λ(k_:Nat) u=>(Cs u [(Ud 30 k_)] [(30,.arr 2 63 k_ (λi=>Bs ((Q67 l8 i7).getD i ((0:Int),(0:Int)))))])) (show l8.length=(Q67 l8 i7).length from(Fx ..)))) Jj)))) λh=>tS h (gO (Bd (Bk [7] [30] q))))) λx12 h=>gA (Ae q [4] [30] (Qi (⟨[(4,(.vsl 30 x12.length))],(xD x12),[]⟩:St) (tS h (gK (e:=.ret) (Hu jl (Le.trans (F0 (nm:=30) (sz:=2) (n:=x12.length) (e:=63) (f:=(λi=>Bs (x12.getD i ((0:Int),(0:Int))))) (g:=(λi=>Bs (x12.getD i ((0:Int),(0:Int))))) rfl ⟨rfl,trivial⟩ (λ_ _=>rfl) (by rw[hΓ];rfl)) (Ic (st':=⟨[(4,(xM x12 30))],[(30,.tok 2 63 x12.length)],[]⟩) (by kernel_rfl)))))))))))))))))
def Q69(a0:C5):List Vf:=[(Z85 a0.Kind a0.Bits a0.Lanes a0.Dst a0.Args a0.Imm),(3,.row 63 [RW,RW]),(4,.row 63 [(Ve 64),RW]),(5,.row 63 [(Az a0.Bits),(Az a0.Lanes)]),(6,.row 63 [(Az a0.Bits),RW])]
def Ra(a0:C5):Option rC:=
 (bif (a0.Kind==0) then((Jb ([]:List Hs)).bind λx1=>(some x1)) else(bif (a0.Kind==13) then((Jb ([((1:Int),(1:Int)),(a0.Bits,a0.Lanes),(a0.Bits,a0.Lanes)]:List Hs)).bind λx2=>(some x2)) else(Option.bind (α:=Bool) (bif (a0.Kind==14) then(some (a0.Kind==14)) else(some (a0.Kind==15))) (λx4=>(bif x4 then((Jb ([((w64 a0.Imm),(1:Int))]:List Hs)).bind λx6=>(some x6)) else(bif (a0.Kind==16) then((Jb ([((64:Int),(1:Int))]:List Hs)).bind λx7=>(some x7)) else(bif (a0.Kind==17) then((Jb ([((64:Int),(1:Int)),(a0.Bits,a0.Lanes)]:List Hs)).bind λx8=>(some x8)) else(Option.bind (α:=Bool) (bif (a0.Kind==18) then(some (a0.Kind==18)) else(some (a0.Kind==19))) (λx10=>(bif x10 then((Jb ([((1:Int),(1:Int)),((64:Int),(1:Int)),(a0.Bits,(1:Int))]:List Hs)).bind λx12=>(some x12)) else(bif (a0.Kind==20) then((Jb ([((1:Int),(1:Int)),(a0.Bits,(1:Int)),(a0.Bits,(1:Int)),(a0.Bits,(1:Int))]:List Hs)).bind λx13=>(some x13)) else(bif (a0.Kind==21) then((Ce ([(a0.Bits,(1:Int))]:List Hs) a0.Lanes).bind λx14=>((Jb x14).bind λx15=>(some x15))) else(bif (a0.Kind==22) then((Jb ([(a0.Bits,a0.Lanes)]:List Hs)).bind λx16=>(some x16)) else((Jb ([(a0.Bits,a0.Lanes),(a0.Bits,a0.Lanes)]:List Hs)).bind λx17=>(some x17)))))))))))))))
theorem GL(h:Ra v8=some v22):sP 164 [(IM v8)] [] (tK v22) []:=
 sG Tryz.func164 λΓ q=>gR q [1] [1] [(2,Z55)] [] (c1 (Bi 2 Bs ((0:Int),(0:Int)))) (tW q Fe Fe Th Th (tW q [1,3,4,5,6,18] Th [1,3,4,5,6,18,19] Th (gC h (λh=>tB h λx1 y1 h=>tT q [2] [] [(lh x1)] (c1 (show(sP 175 [(.slice 0 0 (λ_=>[]) .none)] [] (tK x1) []) from(Spec.args (.cons IU .nil) (Jl y1)))) (tS h (Be []))) λh=>Ae q [1,3,4,5,6,18,22] Th (gC h (λh=>tB h λx2 y2 h=>gR q [2] [] [(27,(AV.list 2 Bs ((0:Int),(0:Int)) ([((1:Int),(1:Int)),(v8.Bits,v8.Lanes),(v8.Bits,v8.Lanes)]:List Hs) .exact))] [(lh x2)] (c2 (B9 2 Bs ((0:Int),(0:Int)) ([((1:Int),(1:Int)),(v8.Bits,v8.Lanes),(v8.Bits,v8.Lanes)]:List Hs)) (Jl y2)) (tS h (Be []))) λh=>tB h λx4 y4 h=>gJ y4 (λb3=>aG Γ .normal (⟨[FZ,(3,(.ptr 3 0)),(4,(.ptr 4 0)),PV,(6,(.ptr 6 0)),(Ds 18 v8.Kind),(29,(.bool b3))],(Q69 v8),[]⟩:St)) (λy h=>Ae q [1,3,4,5,6,18,29] Th (gC h (λh=>tS h (gK (Bd Jj))) λh=>Ae q [1,3,4,5,6,18,29] Th (tS h (gK (Bd Jj))))) (gA (gC h (λh=>tB h λx6 y6 h=>gR q [2] [] [(36,(AV.list 2 Bs ((0:Int),(0:Int)) ([((w64 v8.Imm),(1:Int))]:List Hs) .exact))] [(lh x6)] (c2 (B9 2 Bs ((0:Int),(0:Int)) ([((w64 v8.Imm),(1:Int))]:List Hs)) (Jl y6)) (tS h (Be []))) λh=>Ae q [1,3,4,5,6,18,38] Th (gC h (λh=>tB h λx7 y7 h=>gR q [2] [] [(41,(AV.list 2 Bs ((0:Int),(0:Int)) ([((64:Int),(1:Int))]:List Hs) .exact))] [(lh x7)] (c2 (B9 2 Bs ((0:Int),(0:Int)) ([((64:Int),(1:Int))]:List Hs)) (Jl y7)) (tS h (Be []))) λh=>Ae q [1,3,4,5,6,18,43] Th (gC h (λh=>tB h λx8 y8 h=>gR q [2] [] [(47,(AV.list 2 Bs ((0:Int),(0:Int)) ([((64:Int),(1:Int)),(v8.Bits,v8.Lanes)]:List Hs) .exact))] [(lh x8)] (c2 (B9 2 Bs ((0:Int),(0:Int)) ([((64:Int),(1:Int)),(v8.Bits,v8.Lanes)]:List Hs)) (Jl y8)) (tS h (Be []))) λh=>tB h λx10 y10 h=>gJ y10 (λb9=>aG Γ .normal (⟨[FZ,(3,(.ptr 3 0)),(4,(.ptr 4 0)),PV,(6,(.ptr 6 0)),(Ds 18 v8.Kind),(49,(.bool b9))],(Q69 v8),[]⟩:St)) (λy h=>Ae q [1,3,4,5,6,18,49] Th (gC h (λh=>tS h (gK (Bd Jj))) λh=>Ae q [1,3,4,5,6,18,49] Th (tS h (gK (Bd Jj))))) (gA (gC h (λh=>tB h λx12 y12 h=>gR q [2] [] [(55,(AV.list 2 Bs ((0:Int),(0:Int)) ([((1:Int),(1:Int)),((64:Int),(1:Int)),(v8.Bits,(1:Int))]:List Hs) .exact))] [(lh x12)] (c2 (B9 2 Bs ((0:Int),(0:Int)) ([((1:Int),(1:Int)),((64:Int),(1:Int)),(v8.Bits,(1:Int))]:List Hs)) (Jl y12)) (tS h (Be []))) λh=>Ae q [1,3,5,6,18,57] KN (gC h (λh=>tB h λx13 y13 h=>gR q [2] [] [(63,(AV.list 2 Bs ((0:Int),(0:Int)) ([((1:Int),(1:Int)),(v8.Bits,(1:Int)),(v8.Bits,(1:Int)),(v8.Bits,(1:Int))]:List Hs) .exact))] [(lh x13)] (c2 (B9 2 Bs ((0:Int),(0:Int)) ([((1:Int),(1:Int)),(v8.Bits,(1:Int)),(v8.Bits,(1:Int)),(v8.Bits,(1:Int))]:List Hs)) (Jl y13)) (tS h (Be []))) λh=>Ae q [1,5,6,18,65] [1,5,6] (gC h (λh=>tB h λx14 y14 h=>tB h λx15 y15 h=>gR q [2] [] [(68,(AV.list 2 Bs ((0:Int),(0:Int)) ([(v8.Bits,(1:Int))]:List Hs) .exact))] [⟨[],[(20000,71)],(xM x14 20000),[(20000,.tok 2 63 x14.length)],[],[]⟩,(lh x15)] (c3 (B9 2 Bs ((0:Int),(0:Int)) ([(v8.Bits,(1:Int))]:List Hs)) (Tn y14) (Jl y15)) (tS h (Be []))) λh=>Ae q [5,73] [5] (gC h (λh=>tB h λx16 y16 h=>gR q [2] [] [(76,(AV.list 2 Bs ((0:Int),(0:Int)) ([(v8.Bits,v8.Lanes)]:List Hs) .exact))] [(lh x16)] (c2 (B9 2 Bs ((0:Int),(0:Int)) ([(v8.Bits,v8.Lanes)]:List Hs)) (Jl y16)) (tS h (Be []))) λh=>tB h λx17 y17 h=>gR q [2] [] [(80,(AV.list 2 Bs ((0:Int),(0:Int)) ([(v8.Bits,v8.Lanes),(v8.Bits,v8.Lanes)]:List Hs) .exact))] [(lh x17)] (c2 (B9 2 Bs ((0:Int),(0:Int)) ([(v8.Bits,v8.Lanes),(v8.Bits,v8.Lanes)]:List Hs)) (Jl y17)) (tS h (Be [])))))))))))))))
def Nv(aK:Int):Option Bool:=
 (some (bif (decide ((1:Int)<=aK)) then(decide (aK<=1023)) else false))
theorem Zl(h:Nv v4=some v5):sP 191 [(Az v4)] [] (.bool v5) []:=
 sG Tryz.func191 λΓ q=>Ae q [0] [] (tU q [2] [] (c2 (gI ((decide ((1:Int)<=v4))==true)) (Nn (decide ((1:Int)<=v4)))) (tS h (Be [])))
def Kr(a0:C5):Int->Option (LR Int (Unit ⊕ Bool)):=
 λ(i2:Int)=>(bif (decide (i2<(a0.Args.length:Int))) then(Aw (A0 i2 a0.Args.length) ((Nv (a0.Args.getD i2.toNat 0)).bind λx4=>(bif (!x4) then(some (.done (.inr false))) else(some (.next (w64 (i2+1))))))) else(some (.done (.inl ()))))
def RH(Γ:Il)(a0:C5)(r:Bool):Exit->St->Prop:=fK Tryz.prog Γ Tryz.f173.results.toList [] (.bool r) []
def Qz(a0:C5):Option Bool:=
 ((Ra a0).bind λx1=>(bif ((a0.Args.length:Int)!=(x1.length:Int)) then(some false) else((Ad (Kr a0) (0:Int)).bind (λx5=>(match x5 with|(.inl _)=>(some true)|(.inr r7)=>(some r7))))))
theorem QA(h:Qz v8=some v5):sP 173 [(IM v8)] [] (.bool v5) []:=
 sG Tryz.func173 λΓ q=>Ae q [1] [1] (tB h λx1 y1 h=>tT q [1,11] [1] [(lh x1)] (c1 (GL y1)) (gC h (λh=>Ae q [2] [] (tS h (Be []))) λh=>Ae q [13,14,15] [] (tL q h [13,14,15] [] (λu i2=>(Cs u [(Ds 15 i2)] [])) (λu x_=>match x_ with|(.inl _)=>aG Γ (.exit 0) (⟨[],[],[]⟩:St)|(.inr r_)=>aR (RH Γ v8 r_)) (λi2 y h=>Ae q [13,14,15,16] [] (gC h (λh=>tV q [4,13,14,15] [] h λh=>tB h λx4 y4 h=>tT q [13,14,15,21] [] [(Z8 x4)] (c1 (Zl y4)) (gC h (λh=>Ae q [2] [] (tS h (gO (Lc (Hu [] (Le.refl _ _)))))) λh=>Ae q [13,14,15] [] (tN h))) λh=>tS h (gO (Bd (Bk [] [] q))))) λx5 h=>(match x5,h with | .inl _,h=>gA (Ae q [2] [] (tS h (Be []))) | .inr r7,h=>Pu (λst' hk=>tS h (gK hk))))))
def Q70(a0:C5):List Vf:=[(Z85 a0.Kind a0.Bits a0.Lanes a0.Dst a0.Args a0.Imm)]
def Q1(a0:C5):Option Hs:=
 (Option.bind (α:=Bool) (bif (a0.Kind==17) then(some (a0.Kind==17)) else(some (a0.Kind==19))) (λx2=>(bif x2 then(some ((0:Int),(0:Int))) else(Option.bind (α:=Bool) (bif (a0.Kind==10) then(some (a0.Kind==10)) else(bif (a0.Kind==11) then(some (a0.Kind==11)) else(some (a0.Kind==12)))) (λx5=>(bif x5 then(some ((1:Int),(1:Int))) else(bif (a0.Kind==22) then(some (a0.Bits,(1:Int))) else(some (a0.Bits,a0.Lanes)))))))))
theorem GK(h:Q1 v8=some v20):sP 163 [(IM v8)] [] (.tuple [(Az v20.1),(Az v20.2)]) []:=
 sG Tryz.func163 λΓ q=>tW q [1] [1] [1,5] [1] (tB h λx2 y2 h=>gJ y2 (λb1=>aG Γ .normal (⟨[FZ,(5,(Az v8.Kind)),(6,(.bool b1))],(Q70 v8),[]⟩:St)) (λy h=>Ae q [1,5,6] [1] (gC h (λh=>tS h (gK (Bd Jj))) λh=>Ae q [1,5,6] [1] (tS h (gK (Bd Jj))))) (gA (gC h (λh=>Ae q Cn [] (tS h (Be []))) λh=>tB h λx5 y5 h=>gJ y5 (λb4=>aG Γ .normal (⟨[FZ,(5,(Az v8.Kind)),(9,(.bool b4))],(Q70 v8),[]⟩:St)) (λy h=>Ae q [1,5,9] [1] (gC h (λh=>tS h (gK (Bd Jj))) λh=>Ae q [1,5,9] [1] (gC h (λh=>tS h (gK (Bd Jj))) λh=>Ae q [1,5,9] [1] (tS h (gK (Bd Jj)))))) (gA (gC h (λh=>Ae q Cn [] (tS h (Be []))) λh=>Ae q [1,13] [1] (gC h (λh=>Ae q Cn [] (tS h (Be []))) λh=>Ae q Cn [] (tS h (Be []))))))))
def Q0(a0:C5):Option Bool:=
 ((Q1 a0).bind λx1=>(bif (x1.1==0) then(some (a0.Dst==0)) else((Nv a0.Dst).bind λx2=>(some x2))))
theorem QC(h:Q0 v8=some v5):sP 174 [(IM v8)] [] (.bool v5) []:=
 sG Tryz.func174 λΓ q=>Ae q [1] [1] (tB h λx1 y1 h=>tT q M1 [1] [(tI x1.1 x1.2)] (c1 (GK y1)) (Ae q [1,11] [1] (gC h (λh=>Ae q [2] [] (tS h (Be []))) λh=>tB h λx2 y2 h=>tT q [2] [] [(Z8 x2)] (c1 (Zl y2)) (tS h (Be [])))))
def vl(x1:Bool)(x2:Bool):=(bif (!x1) then true else(!x2))
def Sb(a0:C5):Option Bool:=
 ((Sw a0.Kind).bind λx1=>((bif ((!x1)==false) then T4 a0.Bits a0.Lanes else some false).bind λx2=>((bif ((bif (!x1) then true else(!x2))==false) then Od a0 else some false).bind λx3=>((bif ((bif (bif (!x1) then true else(!x2)) then true else(!x3))==false) then Q2 a0 else some false).bind λx4=>(bif (bif (bif (bif (!x1) then true else(!x2)) then true else(!x3)) then true else(!x4)) then(some false) else((Qz a0).bind λx5=>((bif (x5==true) then Q0 a0 else some false).bind λx6=>(some (bif x5 then x6 else false)))))))))
theorem DH(h:Sb v8=some v5):sP 161 [(IM v8)] [] (.bool v5) []:=
 sG Tryz.func161 λΓ q=>Ae q [1] [1] (tB h λx1 y1 h=>tB h λx2 y2 h=>tB h λx3 y3 h=>tB h λx4 y4 h=>tT q [1,24] [1] [(Z8 x1),(Z8 x2),(Z8 x3),(Z8 x4)] (ci (TT y1) (f5 ((!x1)==false) (d9_ (λ(hg:((!x1)==false)=true)=>(XZ (B0 hg y2))) (gI ((!x1)==false)) (Kl (!x1)) (gI ((vl x1 x2)==false)) (λ(hg:((vl x1 x2)==false)=true)=>(JS (B0 hg y3))) (gI ((vl x1 x2)==false)) (Kl (vl x1 x2)) (gI ((bif (vl x1 x2) then true else(!x3))==false)) (λ(hg:((bif (vl x1 x2) then true else(!x3))==false)=true)=>(QD (B0 hg y4))) (c2 (gI ((bif (vl x1 x2) then true else(!x3))==false)) (Kl (bif (vl x1 x2) then true else(!x3))))))) (gC h (λh=>Ae q [2] [] (tS h (Be []))) λh=>tB h λx5 y5 h=>tB h λx6 y6 h=>tT q [2] [] [(Z8 x5),(Z8 x6)] (c4 (QA y5) (gI (x5==true)) (λ(hg:(x5==true)=true)=>(QC (B0 hg y6))) (Nn x5)) (tS h (Be []))))
def T0(a0:C5)(aa1:Int):Option Bool:=
 (bif (aa1==0) then(some (bif (decide (a0.Kind<=17)) then(a0.Lanes==1) else false)) else(bif (aa1==1) then(some (bif (decide (a0.Kind<=20)) then(a0.Lanes==1) else false)) else(some true)))
theorem XU(h:T0 v8 v4=some v5):sP 162 [(IM v8),(Az v4)] [] (.bool v5) []:=
 sG Tryz.func162 λΓ q=>tW q Pe [2] Wr [2] (Ae q Xs [2] (gC h (λh=>tU q [4] [] (Mn ((decide (v8.Kind<=17))==true) (c1 (Nn (decide (v8.Kind<=17))))) (tS h (Be []))) λh=>Ae q Wp [2] (gC h (λh=>tU q [4] [] (Mn ((decide (v8.Kind<=20))==true) (c1 (Nn (decide (v8.Kind<=20))))) (tS h (Be []))) λh=>Ae q [4] [] (tS h (Be [])))))
abbrev EE:=(Bool×TFunc×Int×Am×List Bj)
def Ip(a0:C5)(a6:TFunc)(aB:Int)(a2:Am)(a3:List Bj):Option EE:=
 ((Sb a0).bind λx1=>((bif (x1==true) then T0 a0 aB else some false).bind λx2=>(some ((bif x1 then x2 else false),a6,aB,a2,a3))))
variable{v24:EE}
theorem Wh(h:Ip v8 v3 v4 v0 v14=some v24):sP 127 [(Ha 30000),(IM v8)] (Z3 v3.Params v3.Ret v3.Blocks v4 v0 v14 v14.length) (.bool v24.1) (Z3 v24.2.1.Params v24.2.1.Ret v24.2.1.Blocks v24.2.2.1 v24.2.2.2.1 v24.2.2.2.2 v24.2.2.2.2.length):=
 sG Tryz.func127 λΓ q=>Ae q Ov VT (tB h λx1 y1 h=>tB h λx2 y2 h=>tT q [4] D4 [(Z8 x1),(Z8 x2)] (ci (DH y1) (wC (x1==true) (c2 (λ(hg:(x1==true)=true)=>(XU (B0 hg y2))) (Nn x1)))) (tS h (Be Zv)))
abbrev Tt:=(Int×Am×Int×List Ai×Int×Am×List Bj)
abbrev Abf:=(LR (Int×Am×Int×List Ai×Int×Am×List Bj) ((Am×Int×List Ai×Int×Am×List Bj) ⊕ (Bool×TFunc×Int×Am×List Bj)))
def Hk(aJ:List C5):Tt->Option Abf:=
 λ((i1,l2,i3,l4,i5,l6,l7):Tt)=>(bif (decide (i1<(aJ.length:Int))) then(Aw (A0 i1 aJ.length) ((Ip (aJ.getD i1.toNat default) (⟨l2,i3,l4⟩:TFunc) i5 l6 l7).bind λx15=>(bif (!x15.1) then(some (.done (.inr (false,x15.2.1,x15.2.2.1,x15.2.2.2.1,x15.2.2.2.2)))) else(some (.next ((w64 (i1+1)),x15.2.1.Params,x15.2.1.Ret,x15.2.1.Blocks,x15.2.2.1,x15.2.2.2.1,x15.2.2.2.2)))))) else(some (.done (.inl (l2,i3,l4,i5,l6,l7)))))
def HD(Γ:Il)(aJ:List C5)(a6:TFunc)(aB:Int)(a2:Am)(a3:List Bj)(r:EE):Exit->St->Prop:=fK Tryz.prog Γ Tryz.f126.results.toList (Z3 a6.Params a6.Ret a6.Blocks aB a2 a3 a3.length) (.bool r.1) (Z3 r.2.1.Params r.2.1.Ret r.2.1.Blocks r.2.2.1 r.2.2.2.1 r.2.2.2.2 r.2.2.2.2.length)
def Ma(aJ:List C5)(a6:TFunc)(aB:Int)(a2:Am)(a3:List Bj):Option EE:=
 ((Ad (Hk aJ) ((0:Int),a6.Params,a6.Ret,a6.Blocks,aB,a2,a3)).bind (λx16=>(match x16 with|(.inl (l8,i9,l10,i11,l12,l13))=>(some (true,(⟨l8,i9,l10⟩:TFunc),i11,l12,l13))|(.inr r18)=>(some r18))))
theorem FT(h:Ma v9 v3 v4 v0 v14=some v24):sP 126 [(AV.list 6 PX default v9 .none),(.clo 127 ER [])] (Z3 v3.Params v3.Ret v3.Blocks v4 v0 v14 v14.length) (.bool v24.1) (Z3 v24.2.1.Params v24.2.1.Ret v24.2.1.Blocks v24.2.2.1 v24.2.2.2.1 v24.2.2.2.2 v24.2.2.2.2.length):=
 sG Tryz.func126 λΓ q=>tW q Ew D4 Ng D4 (tL q h Ng D4 (λu (i1,l2,i3,l4,i5,l6,l7)=>(Cs u [(9,(Az i1))] (Z3 l2 i3 l4 i5 l6 l7 l7.length))) (λu x_=>match x_ with|(.inl (l8,i9,l10,i11,l12,l13))=>aG Γ (.exit 0) (⟨[],(Z3 l8 i9 l10 i11 l12 l13 l13.length),[]⟩:St)|(.inr r_)=>aR (HD Γ v9 v3 v4 v0 v14 r_)) (λ⟨i1,l2,i3,l4,i5,l6,l7⟩ y h=>Ae q PI D4 (gC h (λh=>tV q PJ [6,30000,37006] h λh=>tB h λx15 y15 h=>tT q WS D4 [(Z98 x15.1 x15.2.1.Params x15.2.1.Ret x15.2.1.Blocks x15.2.2.1 x15.2.2.2.1 x15.2.2.2.2 x15.2.2.2.2.length)] (c1 (Wh y15)) (gC h (λh=>Ae q [4] D4 (tS h (gO (Lc (Hu Zv (Le.refl _ _)))))) λh=>Ae q Ng D4 (tN h))) λh=>tS h (gO (Bd (Bk [] D4 q))))) λx16 h=>(match x16,h with | .inl ⟨l8,i9,l10,i11,l12,l13⟩,h=>gA (Ae q [4] D4 (tS h (Be Zv))) | .inr r18,h=>Pu (λst' hk=>tS h (gK hk))))
def Q74(x1:Bool)(x2:EE)(a2:Am):AV:=(Z97 x1 x2.2.2.2.1 a2)
def Q73(x1:Bool)(x2:EE)(a6:TFunc):AV:=(Z97 x1 x2.2.1.Params a6.Params)
def Q72(x1:Bool)(x2:EE)(a6:TFunc):AV:=(.slice 5 (bif (x1==true) then x2.2.1.Blocks.length else a6.Blocks.length) (λi=>bif (x1==true) then Jx (x2.2.1.Blocks.getD i default) else Jx (a6.Blocks.getD i default)) .none)
def Gs(aU:Ai)(a6:TFunc)(aB:Int)(a2:Am)(a3:List Bj):Option EE:=
 ((Ll aU.Phis).bind λx1=>((bif (x1==true) then Ma aU.Ops a6 aB a2 a3 else some (false,(default:TFunc),(0:Int),[],[])).bind λx2=>(some ((bif x1 then x2.1 else false),(⟨(bif (x1==true) then x2.2.1.Params else a6.Params),(bif (x1==true) then x2.2.1.Ret else a6.Ret),(bif (x1==true) then x2.2.1.Blocks else a6.Blocks)⟩:TFunc),(bif (x1==true) then x2.2.2.1 else aB),(bif (x1==true) then x2.2.2.2.1 else a2),(bif (x1==true) then x2.2.2.2.2 else a3)))))
theorem T6(h:Gs v11 v3 v4 v0 v14=some v24):sP 96 [(Ha 30000),(.agg (Jx v11))] (Z3 v3.Params v3.Ret v3.Blocks v4 v0 v14 v14.length) (.bool v24.1) (Z3 v24.2.1.Params v24.2.1.Ret v24.2.1.Blocks v24.2.2.1 v24.2.2.2.1 v24.2.2.2.2 v24.2.2.2.2.length):=
 sG Tryz.func96 λΓ q=>Ae q Ov VT (tB h λx1 y1 h=>tB h λx2 y2 h=>tT q [4] D4 [(Z8 x1),(Z98 x2.1 x2.2.1.Params x2.2.1.Ret x2.2.1.Blocks x2.2.2.1 x2.2.2.2.1 x2.2.2.2.2 x2.2.2.2.2.length)] (ci (DB y1) (f5 (x1==true) (c2 (λ(hg:(x1==true)=true)=>(FT (B0 hg y2))) (Nn x1)))) (tS h (gK (e:=.ret) (Hu Zv (Le.trans (leB (λg_ u=>(Cs u [] [(30000,.row 109 [(Q73 x1 x2 v3),(.int .i64 (bif (x1==true) then x2.2.1.Ret else v3.Ret)),(Q72 x1 x2 v3),(.int .i64 (bif (x1==true) then x2.2.2.1 else v4)),(Q74 x1 x2 v0),.nilm,(Z54 g_ x2.2.2.2.2 v14)]),(37006,.tok 5 152 (bif g_ then x2.2.2.2.2.length else v14.length))])) (λg_ u=>(Cs u [] [(30000,.row 109 [(Q73 x1 x2 v3),(.int .i64 (bif (x1==true) then x2.2.1.Ret else v3.Ret)),(Q72 x1 x2 v3),(.int .i64 (bif (x1==true) then x2.2.2.1 else v4)),(Q74 x1 x2 v0),.nilm,(AV.list 5 Ol default (bif g_ then x2.2.2.2.2 else v14) (.own 37006))]),(37006,.tok 5 152 ((bif g_ then x2.2.2.2.2 else v14).length))])) (x1==true)) (Le.trans (uN 30000 0 (show AVle (Q73 x1 x2 v3) (AV.list 1 Ax 0 (bif (x1==true) then x2.2.1.Params else v3.Params) .none) from Ki)) (Le.trans (uN 30000 2 (show AVle (Q72 x1 x2 v3) (AV.list 5 Jx default (bif (x1==true) then x2.2.1.Blocks else v3.Blocks) .none) from Ki)) (uN 30000 4 (show AVle (Q74 x1 x2 v0) (AV.list 1 Ax 0 (bif (x1==true) then x2.2.2.2.1 else v0) .none) from Ki)))))))))
def Fj(aJ:List Ai):Tt->Option Abf:=
 λ((i1,l2,i3,l4,i5,l6,l7):Tt)=>(bif (decide (i1<(aJ.length:Int))) then(Aw (A0 i1 aJ.length) ((Gs (aJ.getD i1.toNat default) (⟨l2,i3,l4⟩:TFunc) i5 l6 l7).bind λx15=>(bif (!x15.1) then(some (.done (.inr (false,x15.2.1,x15.2.2.1,x15.2.2.2.1,x15.2.2.2.2)))) else(some (.next ((w64 (i1+1)),x15.2.1.Params,x15.2.1.Ret,x15.2.1.Blocks,x15.2.2.1,x15.2.2.2.1,x15.2.2.2.2)))))) else(some (.done (.inl (l2,i3,l4,i5,l6,l7)))))
def Zz(Γ:Il)(aJ:List Ai)(a6:TFunc)(aB:Int)(a2:Am)(a3:List Bj)(r:EE):Exit->St->Prop:=fK Tryz.prog Γ Tryz.f95.results.toList (Z3 a6.Params a6.Ret a6.Blocks aB a2 a3 a3.length) (.bool r.1) (Z3 r.2.1.Params r.2.1.Ret r.2.1.Blocks r.2.2.1 r.2.2.2.1 r.2.2.2.2 r.2.2.2.2.length)
def Jy(aJ:List Ai)(a6:TFunc)(aB:Int)(a2:Am)(a3:List Bj):Option EE:=
 ((Ad (Fj aJ) ((0:Int),a6.Params,a6.Ret,a6.Blocks,aB,a2,a3)).bind (λx16=>(match x16 with|(.inl (l8,i9,l10,i11,l12,l13))=>(some (true,(⟨l8,i9,l10⟩:TFunc),i11,l12,l13))|(.inr r18)=>(some r18))))
theorem Yk(h:Jy v12 v3 v4 v0 v14=some v24):sP 95 [(bX v12),(.clo 96 ER [])] (Z3 v3.Params v3.Ret v3.Blocks v4 v0 v14 v14.length) (.bool v24.1) (Z3 v24.2.1.Params v24.2.1.Ret v24.2.1.Blocks v24.2.2.1 v24.2.2.2.1 v24.2.2.2.2 v24.2.2.2.2.length):=
 sG Tryz.func95 λΓ q=>tW q Ew D4 Ng D4 (tL q h Ng D4 (λu (i1,l2,i3,l4,i5,l6,l7)=>(Cs u [(9,(Az i1))] (Z3 l2 i3 l4 i5 l6 l7 l7.length))) (λu x_=>match x_ with|(.inl (l8,i9,l10,i11,l12,l13))=>aG Γ (.exit 0) (⟨[],(Z3 l8 i9 l10 i11 l12 l13 l13.length),[]⟩:St)|(.inr r_)=>aR (Zz Γ v12 v3 v4 v0 v14 r_)) (λ⟨i1,l2,i3,l4,i5,l6,l7⟩ y h=>Ae q PI D4 (gC h (λh=>tV q PJ [6,30000,37006] h λh=>tB h λx15 y15 h=>tT q WS D4 [(Z98 x15.1 x15.2.1.Params x15.2.1.Ret x15.2.1.Blocks x15.2.2.1 x15.2.2.2.1 x15.2.2.2.2 x15.2.2.2.2.length)] (c1 (T6 y15)) (gC h (λh=>Ae q [4] D4 (tS h (gO (Lc (Hu Zv (Le.refl _ _)))))) λh=>Ae q Ng D4 (tN h))) λh=>tS h (gO (Bd (Bk [] D4 q))))) λx16 h=>(match x16,h with | .inl ⟨l8,i9,l10,i11,l12,l13⟩,h=>gA (Ae q [4] D4 (tS h (Be Zv))) | .inr r18,h=>Pu (λst' hk=>tS h (gK hk))))
def ld(x1:Bool)(x2:Bool):=((bif x1 then x2 else false)==true)
def Q78(x1:Bool)(x2:Bool)(x3:EE)(a2:Am):AV:=(Z35 (ld x1 x2) x3.2.2.2.1 a2)
def Q77(x1:Bool)(x2:Bool)(x3:EE)(a6:TFunc):AV:=(Z35 (ld x1 x2) x3.2.1.Params a6.Params)
def Q76(x1:Bool)(x2:Bool)(x3:EE)(a6:TFunc):AV:=(Z90 (ld x1 x2) x3.2.1.Blocks a6.Blocks)
def Jz(a6:TFunc)(aB:Int)(a2:Am)(a3:List Bj):Option m9:=
 ((Pj a6.Params).bind λx1=>((bif (x1==true) then Ep a6.Ret else some false).bind λx2=>((bif ((bif x1 then x2 else false)==true) then Jy a6.Blocks a6 aB a2 a3 else some (false,(default:TFunc),(0:Int),[],[])).bind λx3=>((Ns (bif (bif x1 then x2 else false) then x3.1 else false) (6:Int)).bind λx4=>(some (x4,(⟨(bif ((bif x1 then x2 else false)==true) then x3.2.1.Params else a6.Params),(bif ((bif x1 then x2 else false)==true) then x3.2.1.Ret else a6.Ret),(bif ((bif x1 then x2 else false)==true) then x3.2.1.Blocks else a6.Blocks)⟩:TFunc),(bif ((bif x1 then x2 else false)==true) then x3.2.2.1 else aB),(bif ((bif x1 then x2 else false)==true) then x3.2.2.2.1 else a2),(bif ((bif x1 then x2 else false)==true) then x3.2.2.2.2 else a3)))))))
theorem Yl(h:Jz v3 v4 v0 v14=some v15):sP 73 ER (Z3 v3.Params v3.Ret v3.Blocks v4 v0 v14 v14.length) (Az v15.1) (Z3 v15.2.1.Params v15.2.1.Ret v15.2.1.Blocks v15.2.2.1 v15.2.2.2.1 v15.2.2.2.2 v15.2.2.2.2.length):=
 sG Tryz.func73 λΓ q=>Ae q [0] D4 (tB h λx1 y1 h=>tB h λx2 y2 h=>tB h λx3 y3 h=>tT q [3] D4 [(Z8 x1),(Z8 x2),(Z98 x3.1 x3.2.1.Params x3.2.1.Ret x3.2.1.Blocks x3.2.2.1 x3.2.2.2.1 x3.2.2.2.2 x3.2.2.2.2.length)] (ci (LP y1) (wC (x1==true) (KO (λ(hg:(x1==true)=true)=>(Gl (B0 hg y2))) (Nn x1) (gI7 (ld x1 x2) (c2 (λ(hg:(ld x1 x2)=true)=>(Yk (B0 hg y3))) (Nn (bif x1 then x2 else false))))))) (M6 (Le.trans (leB (λg_ u=>(Cs u [] [(30000,.row 109 [(Q77 x1 x2 x3 v3),(dL (ld x1 x2) x3.2.1.Ret v3.Ret),(Q76 x1 x2 x3 v3),(dL (ld x1 x2) x3.2.2.1 v4),(Q78 x1 x2 x3 v0),.nilm,(Z54 g_ x3.2.2.2.2 v14)]),(37006,.tok 5 152 (bif g_ then x3.2.2.2.2.length else v14.length))])) (λg_ u=>(Cs u [] [(30000,.row 109 [(Q77 x1 x2 x3 v3),(dL (ld x1 x2) x3.2.1.Ret v3.Ret),(Q76 x1 x2 x3 v3),(dL (ld x1 x2) x3.2.2.1 v4),(Q78 x1 x2 x3 v0),.nilm,(AV.list 5 Ol default (bif g_ then x3.2.2.2.2 else v14) (.own 37006))]),(37006,.tok 5 152 ((bif g_ then x3.2.2.2.2 else v14).length))])) (ld x1 x2)) (Le.trans (uN 30000 0 (show AVle (Q77 x1 x2 x3 v3) (AV.list 1 Ax 0 (bif (ld x1 x2) then x3.2.1.Params else v3.Params) .none) from Ki)) (Le.trans (uN 30000 2 (show AVle (Q76 x1 x2 x3 v3) (AV.list 5 Jx default (bif (ld x1 x2) then x3.2.1.Blocks else v3.Blocks) .none) from Ki)) (uN 30000 4 (show AVle (Q78 x1 x2 x3 v0) (AV.list 1 Ax 0 (bif (ld x1 x2) then x3.2.2.2.1 else v0) .none) from Ki))))) (tB h λx4 y4 h=>tT q [2] D4 [(XD x4)] (c1 (Zi y4)) (tS h (Be Zv)))))
def El(aH:Int):Option Hs:=
 (some (aH,(1:Int)))
theorem Mu(h:El v4=some v20):sP 97 [(Az v4)] [] (.agg (Bs v20)) []:=
 sG Tryz.func97 λΓ q=>tW q [0,2] [2] [2] [2] (tS h (Be []))
def yf:=(λ(v_:A2)=>((Xz v_):AV))
abbrev Pb:=(Int×A2)
abbrev fj:=(Bool×TFunc×Int×Am×List Bj×List (Int×A2))
def Gt(aK:Int)(aaB:Hs)(aN:L7)(a6:TFunc)(aB:Int)(a2:Am)(a4:List Pb)(a3:List Bj):Option fj:=
 (bif (bif (bif (Fz a4 aK) then true else(decide (aK<1))) then true else(decide ((1023:Int)<aK))) then(some (false,a6,aB,a2,a3,a4)) else(some (true,a6,aB,a2,a3,(Ny a4 aK (⟨aaB,aN⟩:A2)))))
variable{v25:L7}{v26:List Pb}{v27:fj}
theorem P5(h:Gt v4 v20 v25 v3 v13 v0 v26 v14=some v27):sP 128 [(Ha 30000),(Az v4),(.agg (Bs v20)),(.agg (QW v25))] [(Z2 v3.Params v3.Ret v3.Blocks v13 v0 9100005 v14),(Ni 37006 152 v14.length),(9100005,.obj (.map true .i64 (D6 (λ(v_:A2)=>((Xz v_):AV)) v26)))] (.bool v27.1) [(Z2 v27.2.1.Params v27.2.1.Ret v27.2.1.Blocks v27.2.2.1 v27.2.2.2.1 9100005 v27.2.2.2.2.1),(Ni 37006 152 v27.2.2.2.2.1.length),(9100005,.obj (.map true .i64 (D6 (λ(v_:A2)=>((Xz v_):AV)) v27.2.2.2.2.2)))]:=
 sG Tryz.func128 λΓ q=>Ae q [0,1,6,7] k9 (gR q [0,1,6,7,10] k9 [(17,(.tuple [(vo v26 v4),(.bool (Fz v26 v4))]))] [] (c1 (show(AVle (.tuple [H9 (.agg [Pz,Pz,Pz,Pz]) (D6 yf v26) v4,.bool (Fz (D6 yf v26) v4)]) (.tuple [(vo v26 v4),(.bool (Fz v26 v4))])) from(ed (f:=yf) (l:=v26) (AVle.refl _) rfl))) (tU q [0,1,6,7,28] k9 (c4 (gI ((Fz v26 v4)==false)) (Kl (Fz v26 v4)) (gI ((bif (Fz v26 v4) then true else(decide (v4<1)))==false)) (Kl (bif (Fz v26 v4) then true else(decide (v4<1))))) (gC h (λh=>Ae q [8] Jc (tS h (Be Ty))) λh=>Ae q [] Jc (M6 (Su (λ(k_:List yT1) u=>Cs u [] [(9100005,.obj (.map true .i64 k_))]) (show(Ny (D6 yf v26) v4 (.agg [(Az v20.1),(Az v20.2),(Az v25.block),(Az v25.at_)]))=(D6 yf (Ny v26 v4 (⟨v20,v25⟩:A2))) from(kQ (f:=yf) (l:=v26) (v:=(⟨v20,v25⟩:A2)) rfl rfl))) (Ae q [8] Jc (tS h (Be Ty)))))))
def Qx(a0:C5):Option Hs:=
 ((Sb a0).bind λx1=>(bif (!x1) then(some ((0:Int),(0:Int))) else((Q1 a0).bind λx2=>(some (x2.1,x2.2)))))
theorem XY(h:Qx v8=some v20):sP 129 [(IM v8)] [] (.tuple [(Az v20.1),(Az v20.2)]) []:=
 sG Tryz.func129 λΓ q=>Ae q [1] [1] (tB h λx1 y1 h=>tT q [1,6] [1] [(Z8 x1)] (c1 (DH y1)) (gC h (λh=>Ae q Cn [] (tS h (Be []))) λh=>tB h λx2 y2 h=>tT q Cn [] [(tI x2.1 x2.2)] (c1 (GK y2)) (tS h (Be []))))
set_option maxRecDepth 100000
set_option maxHeartbeats 2000000
abbrev vY:=(Int×Am×Int×List Ai×Int×Am×List Bj×List (Int×A2))
abbrev Abg:=(LR (Int×Am×Int×List Ai×Int×Am×List Bj×List (Int×A2)) ((Am×Int×List Ai×Int×Am×List Bj×List (Int×A2)) ⊕ (Bool×TFunc×Int×Am×List Bj×List (Int×A2))))
def Du(aaA:Int)(aU:Ai):vY->Option Abg:=
 λ((i1,l2,i3,l4,i5,l6,l7,l8):vY)=>(bif (decide (i1<(aU.Phis.length:Int))) then(Aw (A0 i1 aU.Phis.length) ((El ((aU.Phis.getD i1.toNat default).Bits)).bind λx17=>((Gt ((aU.Phis.getD i1.toNat default).Dst) x17 (⟨aaA,(-1:Int)⟩:L7) (⟨l2,i3,l4⟩:TFunc) i5 l6 l8 l7).bind λx18=>(bif (!x18.1) then(some (.done (.inr (false,x18.2.1,x18.2.2.1,x18.2.2.2.1,x18.2.2.2.2.1,x18.2.2.2.2.2)))) else(some (.next ((w64 (i1+1)),x18.2.1.Params,x18.2.1.Ret,x18.2.1.Blocks,x18.2.2.1,x18.2.2.2.1,x18.2.2.2.2.1,x18.2.2.2.2.2))))))) else(some (.done (.inl (l2,i3,l4,i5,l6,l7,l8)))))
def Cp(aaA:Int)(aU:Ai):vY->Option Abg:=
 λ((i21,l22,i23,l24,i25,l26,l27,l28):vY)=>(bif (decide (i21<(aU.Ops.length:Int))) then(Aw (A0 i21 aU.Ops.length) ((Qx (aU.Ops.getD i21.toNat default)).bind λx37=>((bif ((decide ((0:Int)<x37.1))==true) then Gt ((aU.Ops.getD i21.toNat default).Dst) (x37.1,x37.2) (⟨aaA,i21⟩:L7) (⟨l22,i23,l24⟩:TFunc) i25 l26 l28 l27 else some (false,(default:TFunc),(0:Int),[],[],[])).bind λx38=>(bif (bif (decide ((0:Int)<x37.1)) then(!x38.1) else false) then(some (.done (.inr (false,(⟨(bif ((decide ((0:Int)<x37.1))==true) then x38.2.1.Params else l22),(bif ((decide ((0:Int)<x37.1))==true) then x38.2.1.Ret else i23),(bif ((decide ((0:Int)<x37.1))==true) then x38.2.1.Blocks else l24)⟩:TFunc),(bif ((decide ((0:Int)<x37.1))==true) then x38.2.2.1 else i25),(bif ((decide ((0:Int)<x37.1))==true) then x38.2.2.2.1 else l26),(bif ((decide ((0:Int)<x37.1))==true) then x38.2.2.2.2.1 else l27),(bif ((decide ((0:Int)<x37.1))==true) then x38.2.2.2.2.2 else l28))))) else(some (.next ((w64 (i21+1)),(bif ((decide ((0:Int)<x37.1))==true) then x38.2.1.Params else l22),(bif ((decide ((0:Int)<x37.1))==true) then x38.2.1.Ret else i23),(bif ((decide ((0:Int)<x37.1))==true) then x38.2.1.Blocks else l24),(bif ((decide ((0:Int)<x37.1))==true) then x38.2.2.1 else i25),(bif ((decide ((0:Int)<x37.1))==true) then x38.2.2.2.1 else l26),(bif ((decide ((0:Int)<x37.1))==true) then x38.2.2.2.2.1 else l27),(bif ((decide ((0:Int)<x37.1))==true) then x38.2.2.2.2.2 else l28)))))))) else(some (.done (.inl (l22,i23,l24,i25,l26,l27,l28)))))
def Oj(Γ:Il)(aaA:Int)(aU:Ai)(a6:TFunc)(aB:Int)(a2:Am)(a4:List Pb)(a3:List Bj)(r:fj):Exit->St->Prop:=fK Tryz.prog Γ Tryz.f98.results.toList [(Z2 a6.Params a6.Ret a6.Blocks aB a2 9100005 a3),(Ni 37006 152 a3.length),(9100005,.obj (.map true .i64 (D6 (λ(v_:A2)=>((Xz v_):AV)) a4)))] (.bool r.1) [(Z2 r.2.1.Params r.2.1.Ret r.2.1.Blocks r.2.2.1 r.2.2.2.1 9100005 r.2.2.2.2.1),(Ni 37006 152 r.2.2.2.2.1.length),(9100005,.obj (.map true .i64 (D6 (λ(v_:A2)=>((Xz v_):AV)) r.2.2.2.2.2)))]
def fy(x37:Hs):=((decide ((0:Int)<x37.1))==true)
def tG:=(λ(v_:A2)=>((Xz v_):AV))
def Q84(x37:Hs)(x38:fj)(l26:Am):AV:=(Z35 (fy x37) x38.2.2.2.1 l26)
def Q85(x37:Hs)(x38:fj)(l24:List Ai):AV:=(Z90 (fy x37) x38.2.1.Blocks l24)
def Q83(x37:Hs)(x38:fj)(l22:Am):AV:=(Z35 (fy x37) x38.2.1.Params l22)
def Hh(aaA:Int)(aU:Ai)(a6:TFunc)(aB:Int)(a2:Am)(a4:List Pb)(a3:List Bj):Option fj:=
 ((Ad (Du aaA aU) ((0:Int),a6.Params,a6.Ret,a6.Blocks,aB,a2,a3,a4)).bind (λx19=>(match x19 with|(.inl (l9,i10,l11,i12,l13,l14,l15))=>((Ad (Cp aaA aU) ((0:Int),l9,i10,l11,i12,l13,l14,l15)).bind (λx39=>(match x39 with|(.inl (l29,i30,l31,i32,l33,l34,l35))=>(some (true,(⟨l29,i30,l31⟩:TFunc),i32,l33,l34,l35))|(.inr r41)=>(some r41))))|(.inr r42)=>(some r42))))
theorem Uw(h:Hh v4 v11 v3 v13 v0 v26 v14=some v27):sP 98 [(Ha 30000),(Az v4),(.agg (Jx v11))] [(Z2 v3.Params v3.Ret v3.Blocks v13 v0 9100005 v14),(Ni 37006 152 v14.length),(9100005,.obj (.map true .i64 (D6 (λ(v_:A2)=>((Xz v_):AV)) v26)))] (.bool v27.1) [(Z2 v27.2.1.Params v27.2.1.Ret v27.2.1.Blocks v27.2.2.1 v27.2.2.2.1 9100005 v27.2.2.2.2.1),(Ni 37006 152 v27.2.2.2.2.1.length),(9100005,.obj (.map true .i64 (D6 (λ(v_:A2)=>((Xz v_):AV)) v27.2.2.2.2.2)))]:=
 sG Tryz.func98 λΓ q=>tW q L5 PG jS PG (tL q h jS PG (λu (i1,l2,i3,l4,i5,l6,l7,l8)=>(Cs u [(Ds 16 i1)] [(Z2 l2 i3 l4 i5 l6 9100005 l7),(Ni 37006 152 l7.length),(9100005,.obj (.map true .i64 (D6 tG l8)))])) (λu x_=>match x_ with|(.inl (l9,i10,l11,i12,l13,l14,l15))=>aG Γ (.exit 0) (O1 L5 PG u [] [(Z2 l9 i10 l11 i12 l13 9100005 l14),(Ni 37006 152 l14.length),(9100005,.obj (.map true .i64 (D6 tG l15)))])|(.inr r_)=>aR (Oj Γ v4 v11 v3 v13 v0 v26 v14 r_)) (λ⟨i1,l2,i3,l4,i5,l6,l7,l8⟩ y h=>Ae q [0,1,5,14,15,16,17] PG (gC h (λh=>tV q [0,1,5,8,14,15,16] [5,8,30000,37006,9100005] h λh=>tB h λx17 y17 h=>tB h λx18 y18 h=>tT q [0,1,5,14,15,16,29] PG [(n6 x17),⟨Ty,[],(.bool x18.1),[(Z2 x18.2.1.Params x18.2.1.Ret x18.2.1.Blocks x18.2.2.1 x18.2.2.2.1 9100005 x18.2.2.2.2.1),(Ni 37006 152 x18.2.2.2.2.1.length),(9100005,.obj (.map true .i64 (D6 tG x18.2.2.2.2.2)))],[],[]⟩] (c2 (Mu y17) (P5 y18)) (gC h (λh=>Ae q [6] Jc (tS h (gO (Lc (Hu Ty (Le.refl _ _)))))) λh=>Ae q jS PG (tN h))) λh=>tS h (gO (Bd (Bk L5 PG q))))) λx19 h=>(match x19,h with | .inl ⟨l9,i10,l11,i12,l13,l14,l15⟩,h=>gA (Ae q jV Jc (tL q h jV Jc (λu (i21,l22,i23,l24,i25,l26,l27,l28)=>(Cs u [(Ds 34 i21)] [(Z2 l22 i23 l24 i25 l26 9100005 l27),(Ni 37006 152 l27.length),(9100005,.obj (.map true .i64 (D6 tG l28)))])) (λu x_=>match x_ with|(.inl (l29,i30,l31,i32,l33,l34,l35))=>aG Γ (.exit 2) (⟨[],[(Z2 l29 i30 l31 i32 l33 9100005 l34),(Ni 37006 152 l34.length),(9100005,.obj (.map true .i64 (D6 tG l35)))],[]⟩:St)|(.inr r_)=>aR (Oj Γ v4 v11 v3 v13 v0 v26 v14 r_)) (λ⟨i21,l22,i23,l24,i25,l26,l27,l28⟩ y h=>Ae q [0,1,32,33,34,35] Jc (gC h (λh=>tV q [0,1,9,10,32,33,34] rU h λh=>tB h λx37 y37 h=>tT q [0,1,9,10,11,12,32,33,34] rU [(tI x37.1 x37.2)] (c1 (XY y37)) (tB h λx38 y38 h=>tT q [0,1,32,33,34,58] Jc [⟨Ty,[],(.bool x38.1),[(Z2 x38.2.1.Params x38.2.1.Ret x38.2.1.Blocks x38.2.2.1 x38.2.2.2.1 9100005 x38.2.2.2.2.1),(Ni 37006 152 x38.2.2.2.2.1.length),(9100005,.obj (.map true .i64 (D6 tG x38.2.2.2.2.2)))],[],[]⟩] (gI9 (fy x37) (c3 (λ(hg:(fy x37)=true)=>(P5 (B0 hg y38))) (gI (fy x37)) (Nn (decide ((0:Int)<x37.1))))) (M6 (Le.trans (Su (λ(k_:List yT1) u=>Cs u [] [(9100005,.obj (.map true .i64 k_))]) (show(bif (fy x37) then(D6 tG x38.2.2.2.2.2) else(D6 tG l28))=(D6 tG (bif (fy x37) then x38.2.2.2.2.2 else l28)) from(oh rfl rfl))) (Le.trans (leB (λg_ u=>(Cs u [] [(30000,.row 109 [(Q83 x37 x38 l22),(dL (fy x37) x38.2.1.Ret i23),(Q85 x37 x38 l24),(dL (fy x37) x38.2.2.1 i25),(Q84 x37 x38 l26),(.omap 9100005),(Z54 g_ x38.2.2.2.2.1 l27)]),(37006,.tok 5 152 (bif g_ then x38.2.2.2.2.1.length else l27.length))])) (λg_ u=>(Cs u [] [(30000,.row 109 [(Q83 x37 x38 l22),(dL (fy x37) x38.2.1.Ret i23),(Q85 x37 x38 l24),(dL (fy x37) x38.2.2.1 i25),(Q84 x37 x38 l26),(.omap 9100005),(AV.list 5 Ol default (bif g_ then x38.2.2.2.2.1 else l27) (.own 37006))]),(37006,.tok 5 152 ((bif g_ then x38.2.2.2.2.1 else l27).length))])) (fy x37)) (Le.trans (uN 30000 0 (show AVle (Q83 x37 x38 l22) (AV.list 1 Ax 0 (bif (fy x37) then x38.2.1.Params else l22) .none) from Ki)) (Le.trans (uN 30000 2 (show AVle (Q85 x37 x38 l24) (AV.list 5 Jx default (bif (fy x37) then x38.2.1.Blocks else l24) .none) from Ki)) (uN 30000 4 (show AVle (Q84 x37 x38 l26) (AV.list 1 Ax 0 (bif (fy x37) then x38.2.2.2.1 else l26) .none) from Ki)))))) (gC h (λh=>Ae q [6] Jc (tS h (gO (Lc (Hu Ty (Le.refl _ _)))))) λh=>Ae q jV Jc (tN h))))) λh=>tS h (gO (Bd (Bk [] Jc q))))) λx39 h=>(match x39,h with | .inl ⟨l29,i30,l31,i32,l33,l34,l35⟩,h=>gA (Ae q [6] Jc (tS h (Be Ty))) | .inr r41,h=>Pu (λst' hk=>tS h (gK hk))))) | .inr r42,h=>Pu (λst' hk=>tS h (gK hk))))
abbrev Abh:=(Int×List (Int×A2))
def Gu(a6:TFunc):Abh->Option (LR (Int×List (Int×A2)) (List (Int×A2))):=
 λ((i1,l2):Abh)=>(bif (decide (i1<(a6.Params.length:Int))) then(Aw (A0 i1 a6.Params.length) ((El (a6.Params.getD i1.toNat 0)).bind λx5=>(some (.next ((w64 (i1+1)),(Ny l2 (w64 (i1+1)) (⟨x5,(⟨(0:Int),(-1:Int)⟩:L7)⟩:A2))))))) else(some (.done l2)))
abbrev Abi:=(Int×List (Int×A2)×Am×Int×List Ai×Int×Am×List Bj)
def Ek(a6:TFunc):Abi->Option (LR (Int×List (Int×A2)×Am×Int×List Ai×Int×Am×List Bj) ((List (Int×A2)×Am×Int×List Ai×Int×Am×List Bj) ⊕ (Int×TFunc×Int×Am×List Bj×List (Int×A2)))):=
 λ((i8,l9,l10,i11,l12,i13,l14,l15):Abi)=>(bif (decide (i8<(a6.Blocks.length:Int))) then(Aw (A0 i8 a6.Blocks.length) ((Hh i8 (a6.Blocks.getD i8.toNat default) (⟨l10,i11,l12⟩:TFunc) i13 l14 l9 l15).bind λx24=>(bif (!x24.1) then(some (.done (.inr ((7:Int),x24.2.1,x24.2.2.1,x24.2.2.2.1,x24.2.2.2.2.1,x24.2.2.2.2.2)))) else(some (.next ((w64 (i8+1)),x24.2.2.2.2.2,x24.2.1.Params,x24.2.1.Ret,x24.2.1.Blocks,x24.2.2.1,x24.2.2.2.1,x24.2.2.2.2.1)))))) else(some (.done (.inl (l9,l10,i11,l12,i13,l14,l15)))))
abbrev vZ:=(Int×TFunc×Int×Am×List Bj×List (Int×A2))
def Wu(Γ:Il)(a6:TFunc)(aB:Int)(a2:Am)(a3:List Bj)(r:vZ):Exit->St->Prop:=fK Tryz.prog Γ Tryz.f74.results.toList (Z3 a6.Params a6.Ret a6.Blocks aB a2 a3 a3.length) (Az r.1) [(Z2 r.2.1.Params r.2.1.Ret r.2.1.Blocks r.2.2.1 r.2.2.2.1 9200005 r.2.2.2.2.1),(Ni 37006 152 r.2.2.2.2.1.length),(9200005,.obj (.map false .i64 (D6 (λ(v_:A2)=>((Xz v_):AV)) r.2.2.2.2.2)))]
def js:=(λ(v_:A2)=>((Xz v_):AV))
def Q87(l16:List Pb)(l17:Am)(i18:Int)(l19:List Ai)(i20:Int)(l21:Am)(l22:List Bj):List Vf:=[(8,.obj (.map true .i64 (D6 js l16))),(z6 l17 i18 l19 i20 l21 l22),(Ni 37006 152 l22.length)]
def In(a6:TFunc)(aB:Int)(a2:Am)(a3:List Bj):Option vZ:=
 ((Ad (Gu a6) ((0:Int),([]:List Pb))).bind (λx6=>((Ad (Ek a6) ((0:Int),x6,a6.Params,a6.Ret,a6.Blocks,aB,a2,a3)).bind (λx25=>(match x25 with|(.inl (l16,l17,i18,l19,i20,l21,l22))=>(some ((0:Int),(⟨l17,i18,l19⟩:TFunc),i20,l21,l22,l16))|(.inr r27)=>(some r27))))))
variable{v28:vZ}
theorem We(h:In v3 v4 v0 v14=some v28):sP 74 ER (Z3 v3.Params v3.Ret v3.Blocks v4 v0 v14 v14.length) (Az v28.1) [(Z2 v28.2.1.Params v28.2.1.Ret v28.2.1.Blocks v28.2.2.1 v28.2.2.2.1 9200005 v28.2.2.2.2.1),(Ni 37006 152 v28.2.2.2.2.1.length),(9200005,.obj (.map false .i64 (D6 (λ(v_:A2)=>((Xz v_):AV)) v28.2.2.2.2.2)))]:=
 sG Tryz.func74 λΓ q=>tW q [0] D4 [0] Rp (M6 (Su (λ(k_:List yT1) u=>Cs u [] [(8,.obj (.map true .i64 k_))]) (show[]=(D6 js ([]:List Pb)) from rfl)) (Ae q cm Rp (tL q h cm Rp (λu (i1,l2)=>(Cs u [(Ds 17 i1)] [(8,.obj (.map true .i64 (D6 js l2)))])) (λu l3=>aG Γ (.exit 0) (O1 [0] Rp u [] [(8,.obj (.map true .i64 (D6 js l3)))])) (λ⟨i1,l2⟩ y h=>Ae q [0,15,16,17,18] Rp (gC h (λh=>tV q [0,3,4,15,16,17] Rp h λh=>tB h λx5 y5 h=>tT q cm Rp [(n6 x5)] (c1 (Mu y5)) (M6 (Su (λ(k_:List yT1) u=>Cs u [] [(8,.obj (.map true .i64 k_))]) (show(Ny (D6 js l2) (w64 (i1+1)) (.agg [(Az x5.1),(Az x5.2),Pz,(.int .i64 (-1:Int))]))=(D6 js (Ny l2 (w64 (i1+1)) (⟨x5,(⟨(0:Int),(-1:Int)⟩:L7)⟩:A2))) from(kQ (f:=js) (l:=l2) (v:=(⟨x5,(⟨(0:Int),(-1:Int)⟩:L7)⟩:A2)) rfl rfl))) (Ae q cm Rp (tN h)))) λh=>tS h (gO (Bd (Bk [0] Rp q))))) λx6 h=>gA (Ae q IB Rp (tL q h IB Rp (λu (i8,l9,l10,i11,l12,i13,l14,l15)=>(Cs u [(Ds 39 i8)] [(8,.obj (.map true .i64 (D6 js l9))),(z6 l10 i11 l12 i13 l14 l15),(Ni 37006 152 l15.length)])) (λu x_=>match x_ with|(.inl (l16,l17,i18,l19,i20,l21,l22))=>aG Γ (.exit 2) (⟨[],(Q87 l16 l17 i18 l19 i20 l21 l22),[]⟩:St)|(.inr r_)=>aR (Wu Γ v3 v4 v0 v14 r_)) (λ⟨i8,l9,l10,i11,l12,i13,l14,l15⟩ y h=>Ae q [0,37,38,39,40] Rp (gC h (λh=>tV q [0,5,6,37,38,39] [6,8,30000,37006] h λh=>tB h λx24 y24 h=>tT q [0,37,38,39,48] Rp [⟨[(30000,30000),(37006,37006),(8,9100005)],[],(.bool x24.1),[(Z2 x24.2.1.Params x24.2.1.Ret x24.2.1.Blocks x24.2.2.1 x24.2.2.2.1 9100005 x24.2.2.2.2.1),(Ni 37006 152 x24.2.2.2.2.1.length),(9100005,.obj (.map true .i64 (D6 js x24.2.2.2.2.2)))],[],[]⟩] (c1 (Uw y24)) (gC h (λh=>Ae q [2] Rp (Qi (⟨[(2,(.int .i64 (7:Int)))],[(8,.obj (.map true .i64 (D6 js x24.2.2.2.2.2))),(z6 x24.2.1.Params x24.2.1.Ret x24.2.1.Blocks x24.2.2.1 x24.2.2.2.1 x24.2.2.2.2.1),(Ni 37006 152 x24.2.2.2.2.1.length)],[]⟩:St) (tS h (gO (Lc (Hu rM (Le.trans (pV (nm:=8) (.map false .i64 (D6 js x24.2.2.2.2.2)) rfl (λ_ _ _ _ h_=>eh h_)) (Bk (st':=⟨[(2,(.int .i64 (7:Int)))],[(8,.obj (.map false .i64 (D6 js x24.2.2.2.2.2))),(z6 x24.2.1.Params x24.2.1.Ret x24.2.1.Blocks x24.2.2.1 x24.2.2.2.1 x24.2.2.2.2.1),(Ni 37006 152 x24.2.2.2.2.1.length)],[]⟩) [2] Rp q)))))))) λh=>Ae q IB Rp (tN h))) λh=>tS h (gO (Bd (Bk [] Rp q))))) λx25 h=>(match x25,h with | .inl ⟨l16,l17,i18,l19,i20,l21,l22⟩,h=>gA (Ae q [2] Rp (Qi (⟨[(2,Pz)],(Q87 l16 l17 i18 l19 i20 l21 l22),[]⟩:St) (tS h (gK (e:=.ret) (Hu rM (Le.trans (pV (nm:=8) (.map false .i64 (D6 js l16)) rfl (λ_ _ _ _ h_=>eh h_)) (Bk (st':=⟨[(2,Pz)],[(8,.obj (.map false .i64 (D6 js l16))),(z6 l17 i18 l19 i20 l21 l22),(Ni 37006 152 l22.length)],[]⟩) [2] Rp q))))))) | .inr r27,h=>Pu (λst' hk=>tS h (gK hk))))))))
abbrev Abj:=(L7×TFunc×Int×Am×List Bj)
def G6(aaA:Int)(a6:TFunc)(aB:Int)(a2:Am)(a4:List Pb)(a3:List Bj):Option Abj:=
 (Aw (A0 aaA a6.Blocks.length) (some ((⟨aaA,(((a6.Blocks.getD aaA.toNat default).Ops).length:Int)⟩:L7),a6,aB,a2,a3)))
variable{v29:Abj}
theorem Nz(h:G6 v4 v3 v13 v0 v26 v14=some v29):sP 131 [(Ha 30000),(Az v4)] [(Z2 v3.Params v3.Ret v3.Blocks v13 v0 9100005 v14),(Ni 37006 152 v14.length),(9100005,.obj (.map false .i64 (D6 (λ(v_:A2)=>((Xz v_):AV)) v26)))] (.agg (QW v29.1)) [(Z2 v29.2.1.Params v29.2.1.Ret v29.2.1.Blocks v29.2.2.1 v29.2.2.2.1 9100005 v29.2.2.2.2),(Ni 37006 152 v29.2.2.2.2.length),(9100005,.obj (.map false .i64 (D6 (λ(v_:A2)=>((Xz v_):AV)) v26)))]:=
 sG Tryz.func131 λΓ q=>Ae q [0,1,4] rZ (tV q [4] rZ h λh=>tS h (Be Ty))
abbrev va:=(TFunc×Int×Am×List Bj)
def E9(aK:Int)(aaB:Hs)(aN:L7)(a6:TFunc)(aB:Int)(a2:Am)(a4:List Pb)(a3:List Bj):Option va:=
 (Aw (a3.length+([(⟨aK,aaB,aN⟩:Bj)]:List Bj).length<=room) (some (a6,aB,a2,(a3++([(⟨aK,aaB,aN⟩:Bj)]:List Bj)))))
variable{v30:va}
theorem K0(h:E9 v4 v20 v25 v3 v13 v0 v26 v14=some v30):sP 130 [(Ha 30000),(Az v4),(.agg (Bs v20)),(.agg (QW v25))] [(Z2 v3.Params v3.Ret v3.Blocks v13 v0 9100005 v14),(Ni 37006 152 v14.length),(9100005,.obj (.map false .i64 (D6 (λ(v_:A2)=>((Xz v_):AV)) v26)))] (.tuple []) [(Z2 v30.1.Params v30.1.Ret v30.1.Blocks v30.2.1 v30.2.2.1 9100005 v30.2.2.2),(Ni 37006 152 v30.2.2.2.length),(9100005,.obj (.map false .i64 (D6 (λ(v_:A2)=>((Xz v_):AV)) v26)))]:=
 sG Tryz.func130 λΓ q=>Ae q [0,1,6,7] k9 (tC h λc1_ h=>gR q [] Jc [(17,(AV.list 5 Ol default ([(⟨v4,v20,v25⟩:Bj)]:List Bj) .exact)),(18,(AV.list 5 Ol default (v14++([(⟨v4,v20,v25⟩:Bj)]:List Bj)) (.own 37006)))] [] (c5 (B9 5 Ol (default:Bj) ([(⟨v4,v20,v25⟩:Bj)]:List Bj)) (Eq.refl v14.length) c1_ (Kh 5 37006 Ol (default:Bj) v14 ([(⟨v4,v20,v25⟩:Bj)]:List Bj)) (Ft v14 ([(⟨v4,v20,v25⟩:Bj)]:List Bj))) (tS h (gK (e:=.normal) (Hu Ty (Le.refl _ _)))))
def Q88:List YK:=[(2,Z55)]
def Qy(a0:C5):Option rC:=
 ((Sb a0).bind λx1=>(bif (!x1) then(some ([]:List Hs)) else((Ra a0).bind λx2=>(some x2))))
theorem YA(h:Qy v8=some v22):sP 132 [(IM v8)] [] (tK v22) []:=
 sG Tryz.func132 λΓ q=>gR q [1] [1] Q88 [] (c1 (Bi 2 Bs ((0:Int),(0:Int)))) (tB h λx1 y1 h=>tT q [1,5] [1] [(Z8 x1)] (c1 (DH y1)) (gC h (λh=>gR q [2] [] Q88 [] (c1 (Bi 2 Bs ((0:Int),(0:Int)))) (Qi (⟨Q88,[],[]⟩:St) (tS h (gK (e:=.ret) (Hu [] (show Le Γ _ (⟨[(2,(AV.list 2 Bs ((0:Int),(0:Int)) ([]:List Hs) .none))],[],[]⟩:St) from Le.trans (Bk (st':=⟨Q88,[],[]⟩) [2] [] q) (Ka (.cons AVle.untag .nil) .nil))))))) λh=>tB h λx2 y2 h=>tT q [2] [] [(lh x2)] (c1 (GL y2)) (tS h (Be []))))
abbrev rD:=(LR (Int×Am×Int×List Ai×Int×Am×List Bj) (Am×Int×List Ai×Int×Am×List Bj))
def Ef(a6:TFunc)(a4:List Pb)(i1:Int)(i21:Int):Tt->Option rD:=
 λ((i35,l36,i37,l38,i39,l40,l41):Tt)=>(bif (decide (i35<(((((a6.Blocks.getD i1.toNat default).Phis).getD i21.toNat default).Args).length:Int))) then(Aw (A0 i35 ((((a6.Blocks.getD i1.toNat default).Phis).getD i21.toNat default).Args).length) ((El ((((a6.Blocks.getD i1.toNat default).Phis).getD i21.toNat default).Bits)).bind λx49=>(Aw (A0 i35 ((((a6.Blocks.getD i1.toNat default).Phis).getD i21.toNat default).From).length) ((G6 (((((a6.Blocks.getD i1.toNat default).Phis).getD i21.toNat default).From).getD i35.toNat 0) (⟨l36,i37,l38⟩:TFunc) i39 l40 a4 l41).bind λx51=>((E9 (((((a6.Blocks.getD i1.toNat default).Phis).getD i21.toNat default).Args).getD i35.toNat 0) x49 x51.1 x51.2.1 x51.2.2.1 x51.2.2.2.1 a4 x51.2.2.2.2).bind λx52=>(some (.next ((w64 (i35+1)),x52.1.Params,x52.1.Ret,x52.1.Blocks,x52.2.1,x52.2.2.1,x52.2.2.2)))))))) else(some (.done (l36,i37,l38,i39,l40,l41))))
def Eg(a6:TFunc)(a4:List Pb)(i1:Int):Tt->Option rD:=
 λ((i21,l22,i23,l24,i25,l26,l27):Tt)=>(bif (decide (i21<(((a6.Blocks.getD i1.toNat default).Phis).length:Int))) then(Aw (A0 i21 ((a6.Blocks.getD i1.toNat default).Phis).length) ((Ad (Ef a6 a4 i1 i21) ((0:Int),l22,i23,l24,i25,l26,l27)).bind (λ(l42,i43,l44,i45,l46,l47)=>(some (.next ((w64 (i21+1)),l42,i43,l44,i45,l46,l47)))))) else(some (.done (l22,i23,l24,i25,l26,l27))))
def Eh(a6:TFunc)(a4:List Pb)(i1:Int)(i57:Int)(x71:List MP):Tt->Option rD:=
 λ((i72,l73,i74,l75,i76,l77,l78):Tt)=>(bif (decide (i72<(x71.length:Int))) then(Aw (A0 i72 x71.length) (Aw (A0 i72 ((((a6.Blocks.getD i1.toNat default).Ops).getD i57.toNat default).Args).length) ((E9 (((((a6.Blocks.getD i1.toNat default).Ops).getD i57.toNat default).Args).getD i72.toNat 0) (x71.getD i72.toNat ((0:Int),(0:Int))) (⟨i1,i57⟩:L7) (⟨l73,i74,l75⟩:TFunc) i76 l77 a4 l78).bind λx87=>(some (.next ((w64 (i72+1)),x87.1.Params,x87.1.Ret,x87.1.Blocks,x87.2.1,x87.2.2.1,x87.2.2.2)))))) else(some (.done (l73,i74,l75,i76,l77,l78))))
def Ei(a6:TFunc)(a4:List Pb)(i1:Int):Tt->Option rD:=
 λ((i57,l58,i59,l60,i61,l62,l63):Tt)=>(bif (decide (i57<(((a6.Blocks.getD i1.toNat default).Ops).length:Int))) then(Aw (A0 i57 ((a6.Blocks.getD i1.toNat default).Ops).length) ((Qy (((a6.Blocks.getD i1.toNat default).Ops).getD i57.toNat default)).bind λx71=>((Ad (Eh a6 a4 i1 i57 x71) ((0:Int),l58,i59,l60,i61,l62,l63)).bind (λ(l79,i80,l81,i82,l83,l84)=>(some (.next ((w64 (i57+1)),l79,i80,l81,i82,l83,l84))))))) else(some (.done (l58,i59,l60,i61,l62,l63))))
def Ej(a6:TFunc)(a4:List Pb):Tt->Option rD:=
 λ((i1,l2,i3,l4,i5,l6,l7):Tt)=>(bif (decide (i1<(a6.Blocks.length:Int))) then(Option.bind (α:=(Am×Int×List Ai×Int×Am×List Bj)) (Aw (A0 i1 a6.Blocks.length) ((Ad (Eg a6 a4 i1) ((0:Int),l2,i3,l4,i5,l6,l7)).bind (λx55=>(match x55 with|(l28,i29,l30,i31,l32,l33)=>((Ad (Ei a6 a4 i1) ((0:Int),l28,i29,l30,i31,l32,l33)).bind (λx90=>(match x90 with|(l64,i65,l66,i67,l68,l69)=>(bif (((a6.Blocks.getD i1.toNat default).End.Kind:Int)==0) then((El i65).bind λx92=>((G6 i1 (⟨l64,i65,l66⟩:TFunc) i67 l68 a4 l69).bind λx93=>((E9 ((a6.Blocks.getD i1.toNat default).End.Arg) x92 x93.1 x93.2.1 x93.2.2.1 x93.2.2.2.1 a4 x93.2.2.2.2).bind λx94=>(some (x94.1.Params,x94.1.Ret,x94.1.Blocks,x94.2.1,x94.2.2.1,x94.2.2.2))))) else(bif (((a6.Blocks.getD i1.toNat default).End.Kind:Int)==2) then((El (1:Int)).bind λx95=>((G6 i1 (⟨l64,i65,l66⟩:TFunc) i67 l68 a4 l69).bind λx96=>((E9 ((a6.Blocks.getD i1.toNat default).End.Arg) x95 x96.1 x96.2.1 x96.2.2.1 x96.2.2.2.1 a4 x96.2.2.2.2).bind λx97=>(some (x97.1.Params,x97.1.Ret,x97.1.Blocks,x97.2.1,x97.2.2.1,x97.2.2.2))))) else(some (l64,i65,l66,i67,l68,l69))))))))))) (λx98=>(match x98 with|(l14,i15,l16,i17,l18,l19)=>(some (.next ((w64 (i1+1)),l14,i15,l16,i17,l18,l19)))))) else(some (.done (l2,i3,l4,i5,l6,l7))))
def Q90(a6:TFunc)(i1:Int):=(a6.Blocks.getD i1.toNat default)
def vm(a4:List Pb):=(D6 (λ(v_:A2)=>((Xz v_):AV)) a4)
def Im(a6:TFunc)(aB:Int)(a2:Am)(a4:List Pb)(a3:List Bj):Option va:=
 ((Ad (Ej a6 a4) ((0:Int),a6.Params,a6.Ret,a6.Blocks,aB,a2,a3)).bind (λ(l8,i9,l10,i11,l12,l13)=>(some ((⟨l8,i9,l10⟩:TFunc),i11,l12,l13))))
theorem Wd(h:Im v3 v4 v0 v26 v14=some v30):sP 99 ER [(Z2 v3.Params v3.Ret v3.Blocks v4 v0 9100005 v14),(Ni 37006 152 v14.length),(9100005,.obj (.map false .i64 (D6 (λ(v_:A2)=>((Xz v_):AV)) v26)))] (.tuple []) [(Z2 v30.1.Params v30.1.Ret v30.1.Blocks v30.2.1 v30.2.2.1 9100005 v30.2.2.2),(Ni 37006 152 v30.2.2.2.length),(9100005,.obj (.map false .i64 (D6 (λ(v_:A2)=>((Xz v_):AV)) v26)))]:=
 sG Tryz.func99 λΓ q=>Ae q NG Jc (tL q h NG Jc (λu (i1,l2,i3,l4,i5,l6,l7)=>(Cs u [(Ds 18 i1)] (bY l2 i3 l4 i5 l6 l7 l7.length))) (λu (l8,i9,l10,i11,l12,l13)=>aG Γ (.exit 0) (O1 [] Jc u [] (bY l8 i9 l10 i11 l12 l13 l13.length))) (λ⟨i1,l2,i3,l4,i5,l6,l7⟩ y h=>Ae q [0,16,17,18,19] Jc (gC h (λh=>tB h λx98 y98 h=>gJ y98 (λ(l14,i15,l16,i17,l18,l19)=>aG Γ .normal (⟨[(0,(Ha 30000)),(16,(bX v3.Blocks)),(17,(Ve v3.Blocks.length)),(Ds 18 i1)],(zx l14 i15 l16 i17 l18 l19 l19.length (vm v26)),[]⟩:St)) (λy h=>tV q VO M0 h λh=>Ae q fp M0 (tL q h fp M0 (λu (i21,l22,i23,l24,i25,l26,l27)=>(Cs u [(Ds 26 i21)] (bY l22 i23 l24 i25 l26 l27 l27.length))) (λu (l28,i29,l30,i31,l32,l33)=>aG Γ (.exit 2) (O1 VO M0 u [] (bY l28 i29 l30 i31 l32 l33 l33.length))) (λ⟨i21,l22,i23,l24,i25,l26,l27⟩ y h=>Ae q [0,2,3,16,17,18,24,25,26,27] M0 (gC h (λh=>tV q [0,2,3,5,16,17,18,24,25,26] KL h λh=>Ae q k4 KL (tL q h k4 KL (λu (i35,l36,i37,l38,i39,l40,l41)=>(Cs u [(Ds 33 i35)] (bY l36 i37 l38 i39 l40 l41 l41.length))) (λu (l42,i43,l44,i45,l46,l47)=>aG Γ (.exit 4) (O1 fp M0 u [] (bY l42 i43 l44 i45 l46 l47 l47.length))) (λ⟨i35,l36,i37,l38,i39,l40,l41⟩ y h=>Ae q [0,2,3,5,16,17,18,24,25,26,31,32,33,34] KL (gC h (λh=>tV q [0,2,3,5,6,7,16,17,18,24,25,26,31,32,33] KL h λh=>tB h λx49 y49 h=>tC h λc50_ h=>tB h λx51 y51 h=>tB h λx52 y52 h=>tT q k4 KL [(n6 x49),(Z92 x51.1 x51.2.1.Params x51.2.1.Ret x51.2.1.Blocks x51.2.2.1 x51.2.2.2.1 x51.2.2.2.2 x51.2.2.2.2.length (vm v26)),(z8 x52.1.Params x52.1.Ret x52.1.Blocks x52.2.1 x52.2.2.1 x52.2.2.2 x52.2.2.2.length (vm v26))] (c4 (Mu y49) c50_ (Nz y51) (K0 y52)) (Ae q k4 KL (tN h))) λh=>tS h (gO (Bd (Bk fp M0 q))))) λx53 h=>(match x53,h with|⟨l42,i43,l44,i45,l46,l47⟩,h=>gA (Ae q fp M0 (tN h))))) λh=>tS h (gO (Bd (Bk VO M0 q))))) λx55 h=>(match x55,h with|⟨l28,i29,l30,i31,l32,l33⟩,h=>gA (Ae q fq M0 (tL q h fq M0 (λu (i57,l58,i59,l60,i61,l62,l63)=>(Cs u [(Ds 56 i57)] (bY l58 i59 l60 i61 l62 l63 l63.length))) (λu (l64,i65,l66,i67,l68,l69)=>aG Γ (.exit 6) (O1 VO M0 u [] (bY l64 i65 l66 i67 l68 l69 l69.length))) (λ⟨i57,l58,i59,l60,i61,l62,l63⟩ y h=>Ae q [0,2,3,16,17,18,54,55,56,57] M0 (gC h (λh=>tV q [0,2,3,8,9,16,17,18,54,55,56] bI h λh=>tB h λx71 y71 h=>tT q kz bI [(lh x71)] (c1 (YA y71)) (tL q h kz bI (λu (i72,l73,i74,l75,i76,l77,l78)=>(Cs u [(Ds 64 i72)] (bY l73 i74 l75 i76 l77 l78 l78.length))) (λu (l79,i80,l81,i82,l83,l84)=>aG Γ (.exit 8) (O1 fq M0 u [] (bY l79 i80 l81 i82 l83 l84 l84.length))) (λ⟨i72,l73,i74,l75,i76,l77,l78⟩ y h=>Ae q [0,2,3,8,9,16,17,18,54,55,56,62,63,64,65] bI (gC h (λh=>tV q [0,2,3,8,9,10,11,16,17,18,54,55,56,62,63,64] [3,9,11,30000,37006,9100005] h λh=>tC h λc86_ h=>tB h λx87 y87 h=>tT q kz bI [(z8 x87.1.Params x87.1.Ret x87.1.Blocks x87.2.1 x87.2.2.1 x87.2.2.2 x87.2.2.2.length (vm v26))] (c2 c86_ (K0 y87)) (Ae q kz bI (tN h))) λh=>tS h (gO (Bd (Bk fq M0 q))))) λx88 h=>(match x88,h with|⟨l79,i80,l81,i82,l83,l84⟩,h=>gA (Ae q fq M0 (tN h))))) λh=>tS h (gO (Bd (Bk VO M0 q))))) λx90 h=>(match x90,h with|⟨l64,i65,l66,i67,l68,l69⟩,h=>gA (tW q [0,2,3,16,17,18,84] M0 [0,2,3,16,17,18,84,85] M0 (gC h (λh=>tB h λx92 y92 h=>tB h λx93 y93 h=>tB h λx94 y94 h=>tT q NG Jc [(n6 x92),(Z92 x93.1 x93.2.1.Params x93.2.1.Ret x93.2.1.Blocks x93.2.2.1 x93.2.2.2.1 x93.2.2.2.2 x93.2.2.2.2.length (vm v26)),(z8 x94.1.Params x94.1.Ret x94.1.Blocks x94.2.1 x94.2.2.1 x94.2.2.2 x94.2.2.2.length (vm v26))] (c3 (Mu y92) (Nz y93) (K0 y94)) (tS h (gK (Bd Jj)))) λh=>Ae q [0,2,3,16,17,18,101] M0 (gC h (λh=>tB h λx95 y95 h=>tB h λx96 y96 h=>tB h λx97 y97 h=>tT q NG Jc [(n6 x95),(Z92 x96.1 x96.2.1.Params x96.2.1.Ret x96.2.1.Blocks x96.2.2.1 x96.2.2.2.1 x96.2.2.2.2 x96.2.2.2.2.length (vm v26)),(z8 x97.1.Params x97.1.Ret x97.1.Blocks x97.2.1 x97.2.2.1 x97.2.2.2 x97.2.2.2.length (vm v26))] (c3 (Mu y95) (Nz y96) (K0 y97)) (tS h (gK (Bd Jj)))) λh=>tS h (gK (Bd (Bk NG Jc q)))))))))))) (match x98,h with|⟨l14,i15,l16,i17,l18,l19⟩,h=>gA (Ae q NG Jc (tN h)))) λh=>tS h (gO (Bd (Bk [] Jc q))))) λx100 h=>(match x100,h with|⟨l8,i9,l10,i11,l12,l13⟩,h=>nH (λst' hl101=>tS h (gK (e:=.normal) (Hu Ty hl101)))))
def Lr(aY:Bj)(a6:TFunc)(aB:Int)(a2:Am)(a4:List Pb)(a3:List Bj):Option EE:=
 (some ((Fz a4 aY.v),a6,aB,a2,a3))
variable{v31:Bj}
theorem Wg(h:Lr v31 v3 v4 v0 v26 v14=some v24):sP 100 [(Ha 30000),(.agg (Ol v31))] [(Z2 v3.Params v3.Ret v3.Blocks v4 v0 9100005 v14),(Ni 37006 152 v14.length),(9100005,.obj (.map false .i64 (D6 (λ(v_:A2)=>((Xz v_):AV)) v26)))] (.bool v24.1) [(Z2 v24.2.1.Params v24.2.1.Ret v24.2.1.Blocks v24.2.2.1 v24.2.2.2.1 9100005 v24.2.2.2.2),(Ni 37006 152 v24.2.2.2.2.length),(9100005,.obj (.map false .i64 (D6 (λ(v_:A2)=>((Xz v_):AV)) v26)))]:=
 sG Tryz.func100 λΓ q=>Ae q Ov M0 (gR q [6] Jc [(14,(.tuple [(vo v26 v31.v),(.bool (Fz v26 v31.v))]))] [] (c1 (show(AVle (.tuple [H9 (.agg [Pz,Pz,Pz,Pz]) (D6 (λ(v_:A2)=>((Xz v_):AV)) v26) v31.v,.bool (Fz (D6 (λ(v_:A2)=>((Xz v_):AV)) v26) v31.v)]) (.tuple [(vo v26 v31.v),(.bool (Fz v26 v31.v))])) from(ed (f:=(λ(v_:A2)=>((Xz v_):AV))) (l:=v26) (AVle.refl _) rfl))) (Ae q [4] Jc (tS h (Be Ty))))
def Nr(aY:Bj)(a6:TFunc)(aB:Int)(a2:Am)(a4:List Pb)(a3:List Bj):Option EE:=
 (some (((((H9 (default:A2) a4 aY.v).shape.1:Int)==aY.shape.1)&&((((H9 (default:A2) a4 aY.v).shape.2:Int)==aY.shape.2)&&true)),a6,aB,a2,a3))
theorem AY(h:Nr v31 v3 v4 v0 v26 v14=some v24):sP 101 [(Ha 30000),(.agg (Ol v31))] [(Z2 v3.Params v3.Ret v3.Blocks v4 v0 9100005 v14),(Ni 37006 152 v14.length),(9100005,.obj (.map false .i64 (D6 (λ(v_:A2)=>((Xz v_):AV)) v26)))] (.bool v24.1) [(Z2 v24.2.1.Params v24.2.1.Ret v24.2.1.Blocks v24.2.2.1 v24.2.2.2.1 9100005 v24.2.2.2.2),(Ni 37006 152 v24.2.2.2.2.length),(9100005,.obj (.map false .i64 (D6 (λ(v_:A2)=>((Xz v_):AV)) v26)))]:=
 sG Tryz.func101 λΓ q=>Ae q Ov M0 (gR q [4] Jc [(11,(vo v26 v31.v))] [] (c1 (show(AVle (H9 (.agg [Pz,Pz,Pz,Pz]) (D6 (λ(v_:A2)=>((Xz v_):AV)) v26) v31.v) (vo v26 v31.v)) from(cA (f:=(λ(v_:A2)=>((Xz v_):AV))) (l:=v26) (AVle.refl _) rfl))) (tS h (Be Ty)))
def Co(aZ:Am)(aK:Int):Int->Option (LR Int (Unit ⊕ Int)):=
 λ(i1:Int)=>(bif (decide (i1<(aZ.length:Int))) then(Aw (A0 i1 aZ.length) (bif (aK==(aZ.getD i1.toNat 0)) then(some (.done (.inr i1))) else(some (.next (w64 (i1+1)))))) else(some (.done (.inl ()))))
def Xx(Γ:Il)(aZ:Am)(aK:Int)(r:Int):Exit->St->Prop:=fK Tryz.prog Γ Tryz.f85.results.toList [] (.int .i64 r) []
def Dp(aZ:Am)(aK:Int):Option Int:=
 ((Ad (Co aZ aK) (0:Int)).bind (λx3=>(match x3 with|(.inl _)=>(some (-1:Int))|(.inr r5)=>(some r5))))
theorem P8(h:Dp v0 v4=some v13):sP 85 [(Rs v0),(Az v4)] [] (.int .i64 v13) []:=
 sG Tryz.func85 λΓ q=>tW q Ew [] [0,1,7,8] [] (tL q h [0,1,7,8] [] (λu i1=>(Cs u [(8,(Az i1))] [])) (λu x_=>match x_ with|(.inl _)=>aG Γ (.exit 0) (⟨[],[],[]⟩:St)|(.inr r_)=>aR (Xx Γ v0 v4 r_)) (λi1 y h=>Ae q [0,1,7,8,9] [] (gC h (λh=>Ae q [0,1,5,7,8] [] (tV q [0,1,5,7,8,16] [] h λh=>gC h (λh=>Ae q [4] [] (tS h (gO (Lc (Hu [] (Le.refl _ _)))))) λh=>Ae q [0,1,7,8] [] (tN h))) λh=>tS h (gO (Bd (Bk [] [] q))))) λx3 h=>(match x3,h with | .inl _,h=>gA (Ae q [4] [] (tS h (Be []))) | .inr r5,h=>Pu (λst' hk=>tS h (gK hk))))
def M4(aE:Am)(aN:Int):Option Bool:=
 (some (bif (decide ((0:Int)<=aN)) then(decide (aN<(aE.length:Int))) else false))
theorem DC(h:M4 v0 v4=some v5):sP 193 [(Rs v0),(Az v4)] [] (.bool v5) []:=
 sG Tryz.func193 λΓ q=>Ae q Ew [] (tU q [4] [] (Xu ((decide ((0:Int)<=v4))==true) (c1 (Nn (decide ((0:Int)<=v4))))) (tS h (Be [])))
def Dv(aE:Am)(aX:Int)(aa5:Int):Xl->Option (LR (Int×Am) (Am ⊕ (Bool×Am))):=
 λ((i1,l2):Xl)=>(bif (i1 !=aa5) then(Aw (A0 i1 l2.length) (bif ((l2.getD i1.toNat 0)!=0) then(Aw (A0 i1 l2.length) (some (.done (.inr (((l2.getD i1.toNat 0)!=(w64 (aX+1))),l2))))) else(Aw (A0 i1 aE.length) ((M4 aE (aE.getD i1.toNat 0)).bind λx7=>(bif (!x7) then(some (.done (.inr (false,l2)))) else(Aw (A0 i1 l2.length) (Aw (A0 i1 aE.length) (some (.next ((aE.getD i1.toNat 0),(l2.set i1.toNat (w64 (aX+1))))))))))))) else(some (.done (.inl l2))))
def cz(Γ:Il)(aE:Am)(aaJ:Am)(aX:Int)(aa5:Int)(r:rA):Exit->St->Prop:=fK Tryz.prog Γ Tryz.f192.results.toList [(AU 34001 aaJ)] (.bool r.1) [(AU 34001 r.2)]
def Vt(aE:Am)(aaJ:Am)(aX:Int)(aa5:Int):Option rA:=
 ((Ad (Dv aE aX aa5) (aX,aaJ)).bind (λx10=>(match x10 with|(.inl l3)=>(some (true,l3))|(.inr r12)=>(some r12))))
variable{v32:rA}
theorem cE(h:Vt v0 v1 v4 v13=some v32):sP 192 [(Rs v0),(.vsl 34001 v1.length),(Az v4),(Az v13)] [(AU 34001 v1)] (.bool v32.1) [(AU 34001 v32.2)]:=
 sG Tryz.func192 λΓ q=>tW q WG [34001] [0,1,2,3,9] [34001] (Ae q HB [34001] (tL q h HB [34001] (λu (i1,l2)=>(Cs u [(1,(.vsl 34001 l2.length)),(Ds 10 i1)] [(AU 34001 l2)])) (λu x_=>match x_ with|(.inl l3)=>aG Γ (.exit 0) (⟨[],[(AU 34001 l3)],[]⟩:St)|(.inr r_)=>aR (cz Γ v0 v1 v4 v13 r_)) (λ⟨i1,l2⟩ y h=>Ae q [0,1,3,9,10,16] [34001] (gC h (λh=>tC h λc4_ h=>tU q [0,1,3,9,10,25] [34001] (c2 c4_ (Eq.refl l2.length)) (gC h (λh=>tC h λc5_ h=>tU q [8] [34001] (c2 c5_ (Eq.refl l2.length)) (tS h (gO (Lc (Hu ja (Le.refl _ _)))))) λh=>tC h λc6_ h=>tB h λx7 y7 h=>tT q [0,1,3,9,10,38] [34001] [(Z8 x7)] (c2 c6_ (DC y7)) (gC h (λh=>Ae q [8] [34001] (tS h (gO (Lc (Hu ja (Le.refl _ _)))))) λh=>tC h λc8_ h=>tU q HB [34001] (c2 c8_ (Eq.refl l2.length)) (M6 (Le.trans (Ss 34001 (show ∀ k_,k_<l2.length->AVleL ((λi_=>AV.eraseAll (λn_=>B3 n_ [34001]) ((E0 (λi=>Ax (l2.getD i 0)) i1.toNat 0 [(.int .i64 (w64 (v4+1)))]) i_)) k_) ((λi=>Ax ((l2.set i1.toNat (w64 (v4+1))).getD i 0)) k_) from(Bc (Cl ..).symm (λk_ hk_=>(Bx (AV.eraseAll (λn_=>B3 n_ [34001])) ((Fs (λ_ _=>rfl) (Gr c8_) rfl) k_ hk_)).trans rfl)))) (Su (λ(k_:Nat) u=>(Cs u [(1,(.vsl 34001 k_))] [(34001,.arr 1 3 k_ (λi=>Ax ((l2.set i1.toNat (w64 (v4+1))).getD i 0)))])) (show l2.length=(l2.set i1.toNat (w64 (v4+1))).length from(Cl ..).symm))) (tV q HB [34001] h λh=>tN h))))) λh=>tS h (gO (Bd (Bk [] [34001] q))))) λx10 h=>(match x10,h with | .inl l3,h=>gA (Ae q [8] [34001] (tS h (Be ja))) | .inr r12,h=>Pu (λst' hk=>tS h (gK hk)))))
def Hc(aE:Am)(x1:Int):Xl->Option (LR (Int×Am) (Unit ⊕ Bool)):=
 λ((i3,l4):Xl)=>(bif (decide (i3<(aE.length:Int))) then(Aw (A0 i3 aE.length) ((bif (((aE.getD i3.toNat 0)!=-2)==true) then Vt aE l4 i3 x1 else some (false,[])).bind λx6=>(Aw ((((aE.getD i3.toNat 0)!=-2)==true)=true->(l4.length=x6.2.length)) (bif (bif ((aE.getD i3.toNat 0)!=-2) then(!x6.1) else false) then(some (.done (.inr false))) else(some (.next ((w64 (i3+1)),(bif (((aE.getD i3.toNat 0)!=-2)==true) then x6.2 else l4)))))))) else(some (.done (.inl ()))))
def bP(Γ:Il)(aE:Am)(r:Bool):Exit->St->Prop:=fK Tryz.prog Γ Tryz.f177.results.toList [] (.bool r) []
def rv(aE:Am)(i3:Int):=(((aE.getD i3.toNat 0)!=-2)==true)
def T3(aE:Am):Option Bool:=
 ((Dp aE (-1:Int)).bind λx1=>(bif (decide (x1<0)) then(some false) else(Aw (0<=(aE.length:Int)/\(aE.length:Int)<=(aE.length:Int)/\(aE.length:Int)<=(room:Int)) ((Ad (Hc aE x1) ((0:Int),(List.replicate (aE.length:Int).toNat (0:Int)))).bind (λx8=>(match x8 with|(.inl _)=>(some true)|(.inr r10)=>(some r10)))))))
theorem XV(h:T3 v0=some v5):sP 177 [(Rs v0)] [] (.bool v5) []:=
 sG Tryz.func177 λΓ q=>Ae q [0] [] (tB h λx1 y1 h=>tT q Ov [] [(XD x1)] (c1 (P8 y1)) (Ae q [0,3,9] [] (gC h (λh=>Ae q [2] [] (tS h (Be []))) λh=>tV q Ik [12] h λh=>by exact M6 (Le.trans (Ss 12 (show ∀ k_,k_<((v0.length:Int).toNat)->AVleL ((λi_=>AV.eraseAll (λn_=>B3 n_ [12]) ((λ_=>[Pz]) i_)) k_) ((λi=>Ax ((List.replicate (v0.length:Int).toNat (0:Int)).getD i 0)) k_) from(λk hk=>Mh (e:=Ax) (d:=(0:Int)) (.cons (AVle.refl _) .nil) _ k (Mm hk)))) (Su (λ(k_:Nat) u=>(Cs u [(4,(.vsl 12 k_))] [(12,.arr 1 3 k_ (λi=>Ax ((List.replicate (v0.length:Int).toNat (0:Int)).getD i 0)))])) (show(v0.length:Int).toNat=(List.replicate (v0.length:Int).toNat (0:Int)).length from(K3 ..).symm))) (Ae q jY [12] (tL q h jY [12] (λu (i3,l4)=>(Cs u [(4,(.vsl 12 l4.length)),(Ds 15 i3)] [(AU 12 l4)])) (λu x_=>match x_ with|(.inl _)=>aG Γ (.exit 0) (⟨[],[],[]⟩:St)|(.inr r_)=>aR (bP Γ v0 r_)) (λ⟨i3,l4⟩ y h=>Ae q [0,3,4,14,15,16] [12] (gC h (λh=>Ae q [0,3,4,5,14,15] [12] (tC h λc5_ h=>tB h λx6 y6 h=>tC h λc7_ h=>tT q [0,3,4,14,15,30] [12] [⟨[(12,34001)],[],(.bool x6.1),[(AU 34001 x6.2)],[],[]⟩] (ci c5_ (f5 (rv v0 i3) (c3 (λ(hg:(rv v0 i3)=true)=>(cE (B0 hg y6))) (gI (rv v0 i3)) (Nn ((v0.getD i3.toNat 0)!=-2))))) (M6 (Le.trans (Ss 12 (show ∀ k_,k_<(bif (rv v0 i3) then x6.2.length else l4.length)->AVleL ((λi_=>AV.eraseAll (λn_=>B3 n_ [12]) ((λi=>bif (rv v0 i3) then(λi=>Ax (x6.2.getD i 0)) i else(λi=>Ax (l4.getD i 0)) i) i_)) k_) ((λi=>Ax ((bif (rv v0 i3) then x6.2 else l4).getD i 0)) k_) from(Bc j4 (λk_ hk_=>(Bx (AV.eraseAll (λn_=>B3 n_ [12])) ((λ_ _=>tb) k_ hk_)).trans rfl)))) (Le.trans (Su (λ(k_:Nat) u=>(Cs u [] [(12,.arr 1 3 k_ (λi=>Ax ((bif (rv v0 i3) then x6.2 else l4).getD i 0)))])) (show(bif (rv v0 i3) then x6.2.length else l4.length)=(bif (rv v0 i3) then x6.2 else l4).length from j4)) (Su (λ(k_:Nat) u=>(Cs u [(4,(.vsl 12 k_))] [])) (show l4.length=(bif (rv v0 i3) then x6.2 else l4).length from(tc c7_))))) (gC h (λh=>Ae q [2] [] (tS h (gO (Lc (Hu [] (Le.refl _ _)))))) λh=>Ae q jY [12] (tN h))))) λh=>tS h (gO (Bd (Bk [] [] q))))) λx8 h=>(match x8,h with | .inl _,h=>gA (Ae q [2] [] (tS h (Be []))) | .inr r10,h=>Pu (λst' hk=>tS h (gK hk))))))))
def Nt(aE:Am)(aN:Int):Option Bool:=
 ((M4 aE aN).bind λx1=>(Aw ((x1==true)=true->(A0 aN aE.length)) (some (bif x1 then((aE.getD aN.toNat 0)!=-2) else false))))
theorem Zj(h:Nt v0 v4=some v5):sP 178 [(Rs v0),(Az v4)] [] (.bool v5) []:=
 sG Tryz.func178 λΓ q=>Ae q Ew [] (tB h λx1 y1 h=>tC h λc2_ h=>tT q [4] [] [(Z8 x1)] (ci (DC y1) (Mn (x1==true) (ci c2_ (Mn (x1==true) (c1 (Nn x1)))))) (tS h (Be [])))
def Vr(aE:Am)(aC:Int)(aD:Int):Option Bool:=
 ((T3 aE).bind λx1=>((bif (x1==true) then Nt aE aC else some false).bind λx2=>((bif ((bif x1 then x2 else false)==true) then Nt aE aD else some false).bind λx3=>(some (bif (bif x1 then x2 else false) then x3 else false)))))
theorem cD(h:Vr v0 v4 v13=some v5):sP 165 [(Rs v0),(Az v4),(Az v13)] [] (.bool v5) []:=
 sG Tryz.func165 λΓ q=>Ae q Zy [] (tB h λx1 y1 h=>tB h λx2 y2 h=>tB h λx3 y3 h=>tT q [6] [] [(Z8 x1),(Z8 x2),(Z8 x3)] (ci (XV y1) (Mn (x1==true) (KO (λ(hg:(x1==true)=true)=>(Zj (B0 hg y2))) (Nn x1) (Mn ((bif x1 then x2 else false)==true) (c2 (λ(hg:((bif x1 then x2 else false)==true)=true)=>(Zj (B0 hg y3))) (Nn (bif x1 then x2 else false))))))) (tS h (Be [])))
def Yf(aE:Am)(aC:Int)(aD:Int):Option Bool:=
 ((Vr aE aC aD).bind λx1=>((bif (x1==true) then Sa aE aC aD else some (0:Int)).bind λx2=>(some (bif x1 then(x2==aC) else false))))
theorem ez(h:Yf v0 v4 v13=some v5):sP 133 [(Rs v0),(Az v4),(Az v13)] [] (.bool v5) []:=
 sG Tryz.func133 λΓ q=>Ae q Zy [] (tB h λx1 y1 h=>tB h λx2 y2 h=>tT q [6] [] [(Z8 x1),(XD x2)] (ci (cD y1) (Xu (x1==true) (ci (λ(hg:(x1==true)=true)=>(OE (B0 hg y2))) (Mn (x1==true) (c1 (Nn x1)))))) (tS h (Be [])))
def Io(aY:Bj)(a6:TFunc)(aB:Int)(a2:Am)(a4:List Pb)(a3:List Bj):Option EE:=
 (bif (((H9 (default:A2) a4 aY.v).place.block:Int)==aY.place.block) then(some ((decide (((H9 (default:A2) a4 aY.v).place.at_:Int)<aY.place.at_)),a6,aB,a2,a3)) else((Yf a2 ((H9 (default:A2) a4 aY.v).place.block) aY.place.block).bind λx1=>(some (x1,a6,aB,a2,a3))))
theorem Wf(h:Io v31 v3 v4 v0 v26 v14=some v24):sP 102 [(Ha 30000),(.agg (Ol v31))] [(Z2 v3.Params v3.Ret v3.Blocks v4 v0 9100005 v14),(Ni 37006 152 v14.length),(9100005,.obj (.map false .i64 (D6 (λ(v_:A2)=>((Xz v_):AV)) v26)))] (.bool v24.1) [(Z2 v24.2.1.Params v24.2.1.Ret v24.2.1.Blocks v24.2.2.1 v24.2.2.2.1 9100005 v24.2.2.2.2),(Ni 37006 152 v24.2.2.2.2.length),(9100005,.obj (.map false .i64 (D6 (λ(v_:A2)=>((Xz v_):AV)) v26)))]:=
 sG Tryz.func102 λΓ q=>Ae q Ov M0 (gR q [0,3,5] KL [(12,(vo v26 v31.v))] [] (c1 (show(AVle (H9 (.agg [Pz,Pz,Pz,Pz]) (D6 (λ(v_:A2)=>((Xz v_):AV)) v26) v31.v) (vo v26 v31.v)) from(cA (f:=(λ(v_:A2)=>((Xz v_):AV))) (l:=v26) (AVle.refl _) rfl))) (Ae q [0,3,5,19] KL (gC h (λh=>Ae q [4] Jc (tS h (Be Ty))) λh=>tB h λx1 y1 h=>tT q [4] Jc [(Z8 x1)] (c1 (ez y1)) (tS h (Be Ty)))))
abbrev yW:=(LR (Int×Am×Int×List Ai×Int×Am×List Bj) ((Am×Int×List Ai×Int×Am×List Bj) ⊕ (Am×Int×List Ai×Int×Am×List Bj)))
def F1(a4:List Pb)(x8:va):Tt->Option yW:=
 λ((i9,l10,i11,l12,i13,l14,l15):Tt)=>(bif (decide (i9<(x8.2.2.2.length:Int))) then(Aw (A0 i9 x8.2.2.2.length) ((Lr (x8.2.2.2.getD i9.toNat default) (⟨l10,i11,l12⟩:TFunc) i13 l14 a4 l15).bind λx29=>(bif (!x29.1) then(some (.done (.inr (x29.2.1.Params,x29.2.1.Ret,x29.2.1.Blocks,x29.2.2.1,x29.2.2.2.1,x29.2.2.2.2)))) else(some (.next ((w64 (i9+1)),x29.2.1.Params,x29.2.1.Ret,x29.2.1.Blocks,x29.2.2.1,x29.2.2.2.1,x29.2.2.2.2)))))) else(some (.done (.inl (l10,i11,l12,i13,l14,l15)))))
def F2(a4:List Pb)(l21:List Bj):Tt->Option yW:=
 λ((i32,l33,i34,l35,i36,l37,l38):Tt)=>(bif (decide (i32<(l21.length:Int))) then(Aw (A0 i32 l21.length) ((Nr (l21.getD i32.toNat default) (⟨l33,i34,l35⟩:TFunc) i36 l37 a4 l38).bind λx52=>(bif (!x52.1) then(some (.done (.inr (x52.2.1.Params,x52.2.1.Ret,x52.2.1.Blocks,x52.2.2.1,x52.2.2.2.1,x52.2.2.2.2)))) else(some (.next ((w64 (i32+1)),x52.2.1.Params,x52.2.1.Ret,x52.2.1.Blocks,x52.2.2.1,x52.2.2.2.1,x52.2.2.2.2)))))) else(some (.done (.inl (l33,i34,l35,i36,l37,l38)))))
def F3(a4:List Pb)(l44:List Bj):Tt->Option yW:=
 λ((i55,l56,i57,l58,i59,l60,l61):Tt)=>(bif (decide (i55<(l44.length:Int))) then(Aw (A0 i55 l44.length) ((Io (l44.getD i55.toNat default) (⟨l56,i57,l58⟩:TFunc) i59 l60 a4 l61).bind λx75=>(bif (!x75.1) then(some (.done (.inr (x75.2.1.Params,x75.2.1.Ret,x75.2.1.Blocks,x75.2.2.1,x75.2.2.2.1,x75.2.2.2.2)))) else(some (.next ((w64 (i55+1)),x75.2.1.Params,x75.2.1.Ret,x75.2.1.Blocks,x75.2.2.1,x75.2.2.2.1,x75.2.2.2.2)))))) else(some (.done (.inl (l56,i57,l58,i59,l60,l61)))))
def P3 :Tt->Option (LR (Int×Am×Int×List Ai×Int×Am×List Bj) (Int×TFunc×Int×Am×List Bj)):=
 λ(s_:Tt)=>match s_ with|(i1,l2,i3,l4,i5,l6,l7)=>(some (.done (i1,(⟨l2,i3,l4⟩:TFunc),i5,l6,l7)))
def BQ(Γ:Il)(a6:TFunc)(aB:Int)(a2:Am)(a4:List Pb)(a3:List Bj)(r:m9):Exit->St->Prop:=fK Tryz.prog Γ Tryz.f75.results.toList [(Z2 a6.Params a6.Ret a6.Blocks aB a2 9100005 a3),(Ni 37006 152 a3.length),(9100005,.obj (.map false .i64 (D6 (λ(v_:A2)=>((Xz v_):AV)) a4)))] (Az r.1) [(Z2 r.2.1.Params r.2.1.Ret r.2.1.Blocks r.2.2.1 r.2.2.2.1 9100005 r.2.2.2.2),(Ni 37006 152 r.2.2.2.2.length),(9100005,.obj (.map false .i64 (D6 (λ(v_:A2)=>((Xz v_):AV)) a4)))]
def zj(a4:List Pb):=(D6 (λ(v_:A2)=>((Xz v_):AV)) a4)
def Kn(a6:TFunc)(aB:Int)(a2:Am)(a4:List Pb)(a3:List Bj):Option m9:=
 ((N9 (S:=Tt) (X:=m9) ((Im a6 aB a2 a4 a3).bind λx8=>((Ad (F1 a4 x8) ((0:Int),x8.1.Params,x8.1.Ret,x8.1.Blocks,x8.2.1,x8.2.2.1,x8.2.2.2)).bind (λx30=>(match x30 with|(.inl (l16,i17,l18,i19,l20,l21))=>((Ad (F2 a4 l21) ((0:Int),l16,i17,l18,i19,l20,l21)).bind (λx53=>(match x53 with|(.inl (l39,i40,l41,i42,l43,l44))=>((Ad (F3 a4 l44) ((0:Int),l39,i40,l41,i42,l43,l44)).bind (λx76=>(match x76 with|(.inl (l62,i63,l64,i65,l66,l67))=>(some (.done ((0:Int),(⟨l62,i63,l64⟩:TFunc),i65,l66,l67)))|(.inr (l68,i69,l70,i71,l72,l73))=>(some (.next ((7:Int),l68,i69,l70,i71,l72,l73))))))|(.inr (l45,i46,l47,i48,l49,l50))=>(some (.next ((6:Int),l45,i46,l47,i48,l49,l50))))))|(.inr (l22,i23,l24,i25,l26,l27))=>(some (.next ((7:Int),l22,i23,l24,i25,l26,l27))))))) P3).bind (λx81=>(some x81)))
theorem BA(h:Kn v3 v4 v0 v26 v14=some v15):sP 75 ER [(Z2 v3.Params v3.Ret v3.Blocks v4 v0 9100005 v14),(Ni 37006 152 v14.length),(9100005,.obj (.map false .i64 (D6 (λ(v_:A2)=>((Xz v_):AV)) v26)))] (Az v15.1) [(Z2 v15.2.1.Params v15.2.1.Ret v15.2.1.Blocks v15.2.2.1 v15.2.2.2.1 9100005 v15.2.2.2.2),(Ni 37006 152 v15.2.2.2.2.length),(9100005,.obj (.map false .i64 (D6 (λ(v_:A2)=>((Xz v_):AV)) v26)))]:=
 sG Tryz.func75 λΓ q=>Ae q [0] Jc (tB h λx81 y81 h=>gS y81 (λ(s_:Tt)=>match s_ with|(i1,l2,i3,l4,i5,l6,l7)=>0) (λ(s_:Tt)=>match s_ with|(i1,l2,i3,l4,i5,l6,l7)=>(⟨[(4,(Az i1))],(zx l2 i3 l4 i5 l6 l7 l7.length (zj v26)),[]⟩:St)) (λr_=>aR (BQ Γ v3 v4 v0 v26 v14 r_)) (λy h=>tB h λx8 y8 h=>tT q [0] Jc [(z8 x8.1.Params x8.1.Ret x8.1.Blocks x8.2.1 x8.2.2.1 x8.2.2.2 x8.2.2.2.length (zj v26))] (c1 (Wd y8)) (tW q Ov M0 Ov M0 (Ae q HC Jc (gU 3 (Ae q cn Jc (FR true (tU q jk Pd (c1 (show(A0 (0:Int) 3) from(by decide))) (tW q jZ Pd KM Pd (tL q h KM Pd (λu (i9,l10,i11,l12,i13,l14,l15)=>(Cs u [(Ds 32 i9)] (bY l10 i11 l12 i13 l14 l15 l15.length))) (λu x_=>match x_ with|(.inl (l16,i17,l18,i19,l20,l21))=>aG Γ (.exit 2) (O1 HC Jc u [] (bY l16 i17 l18 i19 l20 l21 l21.length))|(.inr (l22,i23,l24,i25,l26,l27))=>aG Γ (.goto 0) (O1 [4] Jc u [] (bY l22 i23 l24 i25 l26 l27 l27.length))) (λ⟨i9,l10,i11,l12,i13,l14,l15⟩ y h=>Ae q jK Pd (gC h (λh=>tV q jM jO h λh=>tB h λx29 y29 h=>tT q jL Pd [(xE x29.1 x29.2.1.Params x29.2.1.Ret x29.2.1.Blocks x29.2.2.1 x29.2.2.2.1 x29.2.2.2.2 x29.2.2.2.2.length (zj v26))] (c1 (Wg y29)) (gC h (λh=>tS h (gO (Bd (Bk [4] Jc q)))) λh=>Ae q KM Pd (tN h))) λh=>tS h (gO (Bd (Bk HC Jc q))))) λx30 h=>(match x30,h with | .inl ⟨l16,i17,l18,i19,l20,l21⟩,h=>gA (tW q HC Jc cn Jc (FR true (tU q jk Pd (c1 (show(A0 (1:Int) 3) from(by decide))) (tW q jZ Pd KM Pd (tL q h KM Pd (λu (i32,l33,i34,l35,i36,l37,l38)=>(Cs u [(Ds 32 i32)] (bY l33 i34 l35 i36 l37 l38 l38.length))) (λu x_=>match x_ with|(.inl (l39,i40,l41,i42,l43,l44))=>aG Γ (.exit 2) (O1 HC Jc u [] (bY l39 i40 l41 i42 l43 l44 l44.length))|(.inr (l45,i46,l47,i48,l49,l50))=>aG Γ (.goto 0) (O1 [4] Jc u [] (bY l45 i46 l47 i48 l49 l50 l50.length))) (λ⟨i32,l33,i34,l35,i36,l37,l38⟩ y h=>Ae q jK Pd (gC h (λh=>tV q jM jO h λh=>tB h λx52 y52 h=>tT q jL Pd [(xE x52.1 x52.2.1.Params x52.2.1.Ret x52.2.1.Blocks x52.2.2.1 x52.2.2.2.1 x52.2.2.2.2 x52.2.2.2.2.length (zj v26))] (c1 (AY y52)) (gC h (λh=>tS h (gO (Bd (Bk [4] Jc q)))) λh=>Ae q KM Pd (tN h))) λh=>tS h (gO (Bd (Bk HC Jc q))))) λx53 h=>(match x53,h with | .inl ⟨l39,i40,l41,i42,l43,l44⟩,h=>gA (tW q HC Jc cn Jc (FR true (tU q jk Pd (c1 (show(A0 (2:Int) 3) from(by decide))) (tW q jZ Pd KM Pd (tL q h KM Pd (λu (i55,l56,i57,l58,i59,l60,l61)=>(Cs u [(Ds 32 i55)] (bY l56 i57 l58 i59 l60 l61 l61.length))) (λu x_=>match x_ with|(.inl (l62,i63,l64,i65,l66,l67))=>aG Γ (.exit 2) (O1 HC Jc u [] (bY l62 i63 l64 i65 l66 l67 l67.length))|(.inr (l68,i69,l70,i71,l72,l73))=>aG Γ (.goto 0) (O1 [4] Jc u [] (bY l68 i69 l70 i71 l72 l73 l73.length))) (λ⟨i55,l56,i57,l58,i59,l60,l61⟩ y h=>Ae q jK Pd (gC h (λh=>tV q jM jO h λh=>tB h λx75 y75 h=>tT q jL Pd [(xE x75.1 x75.2.1.Params x75.2.1.Ret x75.2.1.Blocks x75.2.2.1 x75.2.2.2.1 x75.2.2.2.2 x75.2.2.2.2.length (zj v26))] (c1 (Wf y75)) (gC h (λh=>tS h (gO (Bd (Bk [4] Jc q)))) λh=>Ae q KM Pd (tN h))) λh=>tS h (gO (Bd (Bk HC Jc q))))) λx76 h=>(match x76,h with | .inl ⟨l62,i63,l64,i65,l66,l67⟩,h=>gA (tW q HC Jc cn Jc (FR false (Ae q [2] Jc (tS h (WV (Lc (Hu Ty (Le.refl _ _)))))))) | .inr ⟨l68,i69,l70,i71,l72,l73⟩,h=>nH (λst' hl78=>tS h (mF (Le.trans hl78 Jj))))))))) | .inr ⟨l45,i46,l47,i48,l49,l50⟩,h=>nH (λst' hl79=>tS h (mF (Le.trans hl79 Jj))))))))) | .inr ⟨l22,i23,l24,i25,l26,l27⟩,h=>nH (λst' hl80=>tS h (mF (Le.trans hl80 Jj))))))))))))) (λ⟨i1,l2,i3,l4,i5,l6,l7⟩ y h=>Ae q [2] Jc (tS h (WV (Lc (Hu Ty (Le.refl _ _)))))) (Pu (λst' hk=>tS h (gK hk))))
def nS:=(λ(v_:A2)=>((Xz v_):AV))
def Q97(x1:m9):List Vf:=(Z3 x1.2.1.Params x1.2.1.Ret x1.2.1.Blocks x1.2.2.1 x1.2.2.2.1 x1.2.2.2.2 x1.2.2.2.2.length)
def Q98(x2:m9):List Vf:=(Z3 x2.2.1.Params x2.2.1.Ret x2.2.1.Blocks x2.2.2.1 x2.2.2.2.1 x2.2.2.2.2 x2.2.2.2.2.length)
def Q99(x3:m9):List Vf:=(Z3 x3.2.1.Params x3.2.1.Ret x3.2.1.Blocks x3.2.2.1 x3.2.2.2.1 x3.2.2.2.2 x3.2.2.2.2.length)
def J0(a6:TFunc)(aB:Int)(a2:Am)(a3:List Bj):Option vZ:=
 ((Km a6 aB a2 a3).bind λx1=>(bif (x1.1 !=0) then(some (x1.1,x1.2.1,x1.2.2.1,x1.2.2.2.1,x1.2.2.2.2,([]:List Pb))) else((Je x1.2.1 x1.2.2.1 x1.2.2.2.1 x1.2.2.2.2).bind λx2=>(bif (x2.1 !=0) then(some (x2.1,x2.2.1,x2.2.2.1,x2.2.2.2.1,x2.2.2.2.2,([]:List Pb))) else((Jz x2.2.1 x2.2.2.1 x2.2.2.2.1 x2.2.2.2.2).bind λx3=>(bif (x3.1 !=0) then(some (x3.1,x3.2.1,x3.2.2.1,x3.2.2.2.1,x3.2.2.2.2,([]:List Pb))) else((In x3.2.1 x3.2.2.1 x3.2.2.2.1 x3.2.2.2.2).bind λx4=>(bif (x4.1 !=0) then(some (x4.1,x4.2.1,x4.2.2.1,x4.2.2.2.1,x4.2.2.2.2.1,x4.2.2.2.2.2)) else((Kn x4.2.1 x4.2.2.1 x4.2.2.2.1 x4.2.2.2.2.2 x4.2.2.2.2.1).bind λx5=>(bif (x5.1 !=0) then(some (x5.1,x5.2.1,x5.2.2.1,x5.2.2.2.1,x5.2.2.2.2,x4.2.2.2.2.2)) else(some ((0:Int),x5.2.1,x5.2.2.1,x5.2.2.2.1,x5.2.2.2.2,x4.2.2.2.2.2))))))))))))
theorem Ym(h:J0 v3 v4 v0 v14=some v28):sP 47 ER (Z3 v3.Params v3.Ret v3.Blocks v4 v0 v14 v14.length) (Az v28.1) [(Z2 v28.2.1.Params v28.2.1.Ret v28.2.1.Blocks v28.2.2.1 v28.2.2.2.1 9200005 v28.2.2.2.2.1),(Ni 37006 152 v28.2.2.2.2.1.length),(9200005,.obj (.map false .i64 (D6 (λ(v_:A2)=>((Xz v_):AV)) v28.2.2.2.2.2)))]:=
 sG Tryz.func47 λΓ q=>tW q [0] D4 [3] VT (Ae q NN D4 (gU 5 (Ae q NK D4 (FR true (tU q WK D4 (c1 (show(A0 (0:Int) 5) from(by decide))) (tB h λx1 y1 h=>tT q WL D4 [(xJ x1.1 (Q97 x1))] (c1 (AZ y1)) (Ae q VY D4 (gC h (λh=>Ae q [2] D4 (Qi (⟨[(2,(Az x1.1))],(Q97 x1),[]⟩:St) (tS h (gK (e:=.ret) (Hu rj (Le.trans (Yd (r:=30000) (j:=5) (nm:=9300005) .i64 rfl rfl (nl rfl) rfl) (Bk (st':=⟨[(2,(Az x1.1))],[(Z2 x1.2.1.Params x1.2.1.Ret x1.2.1.Blocks x1.2.2.1 x1.2.2.2.1 9300005 x1.2.2.2.2),(Ni 37006 152 x1.2.2.2.2.length),(9300005,.obj (.map false .i64 (D6 nS ([]:List Pb))))],[]⟩) [2] jR q))))))) λh=>tW q NN D4 NK D4 (FR true (tU q WK D4 (c1 (show(A0 (1:Int) 5) from(by decide))) (tB h λx2 y2 h=>tT q WL D4 [(xJ x2.1 (Q98 x2))] (c1 (W8 y2)) (Ae q VY D4 (gC h (λh=>Ae q [2] D4 (Qi (⟨[(2,(Az x2.1))],(Q98 x2),[]⟩:St) (tS h (gK (e:=.ret) (Hu rj (Le.trans (Yd (r:=30000) (j:=5) (nm:=9300005) .i64 rfl rfl (nl rfl) rfl) (Bk (st':=⟨[(2,(Az x2.1))],[(Z2 x2.2.1.Params x2.2.1.Ret x2.2.1.Blocks x2.2.2.1 x2.2.2.2.1 9300005 x2.2.2.2.2),(Ni 37006 152 x2.2.2.2.2.length),(9300005,.obj (.map false .i64 (D6 nS ([]:List Pb))))],[]⟩) [2] jR q))))))) λh=>tW q NN D4 NK D4 (FR true (tU q WK D4 (c1 (show(A0 (2:Int) 5) from(by decide))) (tB h λx3 y3 h=>tT q WL D4 [(xJ x3.1 (Q99 x3))] (c1 (Yl y3)) (Ae q VY D4 (gC h (λh=>Ae q [2] D4 (Qi (⟨[(2,(Az x3.1))],(Q99 x3),[]⟩:St) (tS h (gK (e:=.ret) (Hu rj (Le.trans (Yd (r:=30000) (j:=5) (nm:=9300005) .i64 rfl rfl (nl rfl) rfl) (Bk (st':=⟨[(2,(Az x3.1))],[(Z2 x3.2.1.Params x3.2.1.Ret x3.2.1.Blocks x3.2.2.1 x3.2.2.2.1 9300005 x3.2.2.2.2),(Ni 37006 152 x3.2.2.2.2.length),(9300005,.obj (.map false .i64 (D6 nS ([]:List Pb))))],[]⟩) [2] jR q))))))) λh=>tW q NN D4 NK D4 (FR true (tU q WK D4 (c1 (show(A0 (3:Int) 5) from(by decide))) (tB h λx4 y4 h=>tT q WL Zw [⟨Zv,[(9200005,13000005)],(Az x4.1),[(Z2 x4.2.1.Params x4.2.1.Ret x4.2.1.Blocks x4.2.2.1 x4.2.2.2.1 9200005 x4.2.2.2.2.1),(Ni 37006 152 x4.2.2.2.2.1.length),(9200005,.obj (.map false .i64 (D6 nS x4.2.2.2.2.2)))],[],[]⟩] (c1 (We y4)) (Ae q VY Zw (gC h (λh=>Ae q [2] Zw (tS h (Be ri))) λh=>tW q NN Zw NK Zw (FR true (tU q WK Zw (c1 (show(A0 (4:Int) 5) from(by decide))) (tB h λx5 y5 h=>tT q WL Zw [⟨[(30000,30000),(37006,37006),(13000005,9100005)],[],(Az x5.1),[(Z2 x5.2.1.Params x5.2.1.Ret x5.2.1.Blocks x5.2.2.1 x5.2.2.2.1 9100005 x5.2.2.2.2),(Ni 37006 152 x5.2.2.2.2.length),(9100005,.obj (.map false .i64 (D6 nS x4.2.2.2.2.2)))],[],[]⟩] (c1 (BA y5)) (Ae q VY Zw (gC h (λh=>Ae q [2] Zw (tS h (Be ri))) λh=>tW q NN Zw NK Zw (FR false (Ae q [2] Zw (tS h (Be ri))))))))))))))))))))))))))))))))
set_option maxRecDepth 100000
set_option maxHeartbeats 2000000
def ym(a1:TFunc)(aa1:Int):AV:=(.agg [(Rs a1.Params),(Az a1.Ret),(bX a1.Blocks),(Az aa1),oE,.nilm,(AV.list 5 Ol default ([]:List Bj) .exact)])
def yl(a1:TFunc)(aa1:Int):=(⟨[PV],[(5,.row 109 [(Rs a1.Params),(Az a1.Ret),(bX a1.Blocks),(Az aa1),oE,.nilm,(AV.list 5 Ol default ([]:List Bj) .exact)])],[]⟩:St)
def wY(a1:TFunc)(aa1:Int):=(⟨[PV],[(5,.row 109 [(Rs a1.Params),(Az a1.Ret),(bX a1.Blocks),(Az aa1),oE,.nilm,(AV.list 5 Ol default ([]:List Bj) (.own 50506))]),(50506,.tok 5 152 (([]:List Bj).length))],[]⟩:St)
def O6(a1:TFunc)(aa1:Int):Option Int:=
 (bif (bif (decide (aa1<0)) then true else(decide ((2:Int)<aa1))) then(some (1:Int)) else((J0 a1 aa1 ([]:Am) ([]:List Bj)).bind λx1=>(some x1.1)))
theorem TN(h:O6 v3 v4=some v13):sP 26 [(XF v3),(Az v4)] [] (.int .i64 v13) []:=
 sG Tryz.func26 λΓ q=>Ae q Pe [2] (tU q [1,2,11] [2] (c2 (gI ((decide (v4<0))==false)) (Kl (decide (v4<0)))) (gC h (λh=>Ae q [4] [] (tS h (Be []))) λh=>gR q [5] [5] [(14,(ym v3 v4))] [] (c1 (show(AVle (.agg [(Rs v3.Params),(Az v3.Ret),(bX v3.Blocks),(Az v4),dN,.nilm,dN]) (ym v3 v4)) from(AVle.agg (.cons (AVle.refl _) (.cons (AVle.refl _) (.cons (AVle.refl _) (.cons (AVle.refl _) (.cons He (.cons (AVle.refl _) (.cons He .nil)))))))))) (Qi (yl v3 v4) (M6 (show Le Γ _ (wY v3 v4) from Le.trans (Bk (st':=(yl v3 v4)) [5] [5] q) (Le.trans (OA (r:=5) (j:=6) (nm:=50506) (sz':=5) (λi=>Ol (([]:List Bj).getD i default)) 152 rfl rfl (nl rfl) rfl (.inl ⟨rfl,rfl⟩) (λh_=>absurd h_ (by decide))) (Bk (st':=(wY v3 v4)) [5] [5,50506] q))) (M6 (show Le Γ _ (⟨[PV],[(5,.row 109 [(Rs v3.Params),(Az v3.Ret),(bX v3.Blocks),(Az v4),(AV.list 1 Ax 0 ([]:Am) .none),.nilm,(AV.list 5 Ol default ([]:List Bj) (.own 50506))]),(50506,.tok 5 152 (([]:List Bj).length))],[]⟩:St) from Le.trans (Bk (st':=(wY v3 v4)) [5] [5,50506] q) (Ka (.cons (AVle.refl _) .nil) (.row (.cons (AVle.refl _) (.cons (AVle.refl _) (.cons (AVle.refl _) (.cons (AVle.refl _) (.cons AVle.untag (.cons (AVle.refl _) (.cons (AVle.refl _) .nil))))))) (.same .nil)))) (tB h λx1 y1 h=>tT q [4] [] [⟨[(5,30000),(50506,37006)],[(9200005,10000505)],(Az x1.1),[(Z2 x1.2.1.Params x1.2.1.Ret x1.2.1.Blocks x1.2.2.1 x1.2.2.2.1 9200005 x1.2.2.2.2.1),(Ni 37006 152 x1.2.2.2.2.1.length),(9200005,.obj (.map false .i64 (D6 (λ(v_:A2)=>((Xz v_):AV)) x1.2.2.2.2.2)))],[],[]⟩] (c1 (Ym y1)) (tS h (Be []))))))))
def Ph(a1:TFunc)(i2:Int):Hs->Option sE:=
 λ((i5,i6):Hs)=>(bif (decide (i6<(((a1.Blocks.getD i2.toNat default).Phis).length:Int))) then(Aw (A0 i6 ((a1.Blocks.getD i2.toNat default).Phis).length) (some (.next ((if i5<(((a1.Blocks.getD i2.toNat default).Phis).getD i6.toNat default).Dst then(((a1.Blocks.getD i2.toNat default).Phis).getD i6.toNat default).Dst else i5),(w64 (i6+1)))))) else(some (.done i5)))
def Pi(a1:TFunc)(i2:Int):Hs->Option sE:=
 λ((i11,i12):Hs)=>(bif (decide (i12<(((a1.Blocks.getD i2.toNat default).Ops).length:Int))) then(Aw (A0 i12 ((a1.Blocks.getD i2.toNat default).Ops).length) (some (.next ((if i11<(((a1.Blocks.getD i2.toNat default).Ops).getD i12.toNat default).Dst then(((a1.Blocks.getD i2.toNat default).Ops).getD i12.toNat default).Dst else i11),(w64 (i12+1)))))) else(some (.done i11)))
def Tj(a1:TFunc):Hs->Option sE:=
 λ((i1,i2):Hs)=>(bif (decide (i2<(a1.Blocks.length:Int))) then(Aw (A0 i2 a1.Blocks.length) ((Ad (Ph a1 i2) (i1,(0:Int))).bind (λx9=>((Ad (Pi a1 i2) (x9,(0:Int))).bind (λx15=>(some (.next (x15,(w64 (i2+1)))))))))) else(some (.done i1)))
def Qr(a1:TFunc):Option Int:=
 ((Ad (Tj a1) ((a1.Params.length:Int),(0:Int))).bind (λx17=>(some x17)))
theorem XT(h:Qr v3=some v4):sP 27 [(XF v3)] [] (.int .i64 v4) []:=
 sG Tryz.func27 λΓ q=>tW q [1] [1] M1 [1] (Ae q VZ [] (tL q h VZ [] (λu (i1,i2)=>(Cs u [(3,(Az i1)),(Ds 16 i2)] [])) (λu i3=>aG Γ (.exit 0) (⟨[(3,(Az i3))],[],[]⟩:St)) (λ⟨i1,i2⟩ y h=>Ae q [3,14,15,16,17] [] (gC h (λh=>tV q jW [5] h λh=>Ae q k8 [5] (tL q h k8 [5] (λu (i5,i6)=>(Cs u [(3,(Az i5)),(Ds 23 i6)] [])) (λu i7=>aG Γ (.exit 2) (O1 jW [5] u [(3,(Az i7))] [])) (λ⟨i5,i6⟩ y h=>Ae q [3,5,14,15,16,21,22,23,24] [5] (gC h (λh=>tV q [3,5,7,14,15,16,21,22,23] [5,7] h λh=>tW q k8 [5] k8 [5] (tN h)) λh=>tS h (gO (Bd (Bk jW [5] q))))) λx9 h=>gA (Ae q lD [] (tL q h lD [] (λu (i11,i12)=>(Cs u [(3,(Az i11)),(Ds 35 i12)] [])) (λu i13=>aG Γ (.exit 4) (O1 VZ [] u [(3,(Az i13))] [])) (λ⟨i11,i12⟩ y h=>Ae q [3,14,15,16,33,34,35,36] [] (gC h (λh=>tV q [3,9,14,15,16,33,34,35] [9] h λh=>tW q lD [] lD [] (tN h)) λh=>tS h (gO (Bd (Bk VZ [] q))))) λx15 h=>gA (Ae q VZ [] (tN h)))))) λh=>tS h (gO (Bd (Bk [3] [] q))))) λx17 h=>gA (Ae q [2] [] (tS h (Be [])))))
def Qw(a2:Ey)(a4:Int)(a3:Int)(a8:Am)(a5:List Ac):Option Unit:=
 (some ())
variable{v33:List Ac}{v34:Unit}
theorem Xa(h:Qw v16 v4 v13 v0 v33=some v34):sP 50 [(Ha 30000),(.clo 51 [] [])] (Z6 v16 v4 v13 v0 v33 v33.length) (.clo 78 [] [(.rpo [(.clo 51 [] [])]),(.rpo ER)]) (Z6 v16 v4 v13 v0 v33 v33.length):=
 sG Tryz.func50 λΓ q=>gR q Cn Xq [(2,(.rpo [])),(3,(.rpo []))] [] trivial (Ae q [4] Xq (tS h (Be IG)))
def Oo(a2:Ey)(a4:Int)(a3:Int)(a8:Am)(a5:List Ac):Option Unit:=
 (some ())
theorem Uz(h:Oo v16 v4 v13 v0 v33=some v34):sP 50 [(Ha 30000),(.clo 52 [] [])] (Z6 v16 v4 v13 v0 v33 v33.length) (.clo 78 [] [(.rpo [(.clo 52 [] [])]),(.rpo ER)]) (Z6 v16 v4 v13 v0 v33 v33.length):=
 sG Tryz.func50 λΓ q=>gR q Cn Xq [(2,(.rpo [])),(3,(.rpo []))] [] trivial (Ae q [4] Xq (tS h (Be IG)))
def Qv(a2:Ey)(a4:Int)(a3:Int)(a8:Am)(a5:List Ac):Option Unit:=
 (some ())
theorem W9(h:Qv v16 v4 v13 v0 v33=some v34):sP 55 [(Ha 30000),(.clo 53 ER [])] (Z6 v16 v4 v13 v0 v33 v33.length) (.clo 82 [] [(.rpo ER),(.rpo [(.clo 53 ER [])])]) (Z6 v16 v4 v13 v0 v33 v33.length):=
 sG Tryz.func55 λΓ q=>gR q Cn Xq [(2,(.rpo [])),(3,(.rpo []))] [] trivial (Ae q [4] Xq (tS h (Be IG)))
def Om(a2:Ey)(a4:Int)(a3:Int)(a8:Am)(a5:List Ac):Option Unit:=
 (some ())
theorem Ux(h:Om v16 v4 v13 v0 v33=some v34):sP 55 [(Ha 30000),(.clo 54 ER [])] (Z6 v16 v4 v13 v0 v33 v33.length) (.clo 82 [] [(.rpo ER),(.rpo [(.clo 54 ER [])])]) (Z6 v16 v4 v13 v0 v33 v33.length):=
 sG Tryz.func55 λΓ q=>gR q Cn Xq [(2,(.rpo [])),(3,(.rpo []))] [] trivial (Ae q [4] Xq (tS h (Be IG)))
def Bo(aP:Int)(a2:Ey)(a4:Int)(a3:Int)(a8:Am)(a5:List Ac):Option Unit:=
 (some ())
theorem Bq(h:Bo v4 v16 v13 v21 v0 v33=some v34):sP 56 [(Ha 30000),(Az v4)] (Z6 v16 v13 v21 v0 v33 v33.length) (tJ v4) (Z6 v16 v13 v21 v0 v33 v33.length):=
 sG Tryz.func56 λΓ q=>gR q Cn Xq [(2,(.rpo [])),(3,(.rpo []))] [] trivial (Ae q [4] Xq (tS h (Be IG)))
def On(aaM:Int)(a2:Ey)(a4:Int)(a3:Int)(a8:Am)(a5:List Ac):Option Unit:=
 (some ())
theorem Uy(h:On v4 v16 v13 v21 v0 v33=some v34):sP 55 [(Ha 30000),(tJ v4)] (Z6 v16 v13 v21 v0 v33 v33.length) (.clo 82 [] [(.rpo ER),(.rpo [(tJ v4)])]) (Z6 v16 v13 v21 v0 v33 v33.length):=
 sG Tryz.func55 λΓ q=>gR q Cn Xq [(2,(.rpo [])),(3,(.rpo []))] [] trivial (Ae q [4] Xq (tS h (Be IG)))
def Xy:List AV:=ER
def AG(a5:List Ac):Own:=(.tok 3 49 a5.length)
def AF(a2:Ey):Own:=(.arr 1 26 a2.length (λi=>D8 (a2.getD i [])))
def AE(a8:Am):Own:=(.arr 1 5 a8.length (λi=>Ur (a8.getD i 0)))
def AD(a8:Am)(a5:List Ac):Own:=(.row 79 (RV 35100 a8.length a5 37101))
def AC(a2:Ey)(a4:Int)(a3:Int):Own:=(.row 85 [(Ha 30001),.nilm,(.vsl 35002 a2.length),(Az a4),(Az a3)])
def AB(a2:Ey)(a4:Int)(a3:Int)(a8:Am)(a5:List Ac):List Vf:=(Z6 a2 a4 a3 a8 a5 a5.length)
def Ls(a2:Ey)(a4:Int)(a3:Int)(a8:Am)(a5:List Ac):Option Unit:=
 ((Qw a2 a4 a3 a8 a5).bind λx1=>((Oo a2 a4 a3 a8 a5).bind λx2=>((Qv a2 a4 a3 a8 a5).bind λx3=>((Om a2 a4 a3 a8 a5).bind λx4=>((Bo (4:Int) a2 a4 a3 a8 a5).bind λx5=>((On (4:Int) a2 a4 a3 a8 a5).bind λx6=>((Bo (1:Int) a2 a4 a3 a8 a5).bind λx7=>((Bo (2:Int) a2 a4 a3 a8 a5).bind λx8=>((Bo (3:Int) a2 a4 a3 a8 a5).bind λx9=>((Bo (4:Int) a2 a4 a3 a8 a5).bind λx10=>((Bo (5:Int) a2 a4 a3 a8 a5).bind λx11=>((Bo (6:Int) a2 a4 a3 a8 a5).bind λx12=>((Bo (7:Int) a2 a4 a3 a8 a5).bind λx13=>((Bo (8:Int) a2 a4 a3 a8 a5).bind λx14=>((Bo (9:Int) a2 a4 a3 a8 a5).bind λx15=>((Bo (10:Int) a2 a4 a3 a8 a5).bind λx16=>((Bo (11:Int) a2 a4 a3 a8 a5).bind λx17=>((Bo (12:Int) a2 a4 a3 a8 a5).bind λx18=>(some ())))))))))))))))))))
theorem Wj(h:Ls v16 v4 v13 v0 v33=some v34):sP 28 ER (Z6 v16 v4 v13 v0 v33 v33.length) (.omap 20000) [(30000,.row 85 [(Ha 30001),.nilm,(.vsl 35002 v16.length),(Az v4),(Az v13)]),(bZ 30001 35100 v0.length v33 37101),(KR 37101 v33.length),(YO 35002 v16),(PW 35100 v0),(oG 20000)]:=
 sG Tryz.func28 λΓ q=>Ae q [0] Xq (tB h λx1 y1 h=>tB h λx2 y2 h=>tB h λx3 y3 h=>tB h λx4 y4 h=>tB h λx5 y5 h=>tB h λx6 y6 h=>tT q Ov Ly [(Z83 51 Xy (AB v16 v4 v13 v0 v33)),(Z83 52 Xy (AB v16 v4 v13 v0 v33)),(Z79 Xy 53 (AB v16 v4 v13 v0 v33)),(Z79 Xy 54 (AB v16 v4 v13 v0 v33)),(Z73 Xy (AB v16 v4 v13 v0 v33)),⟨IG,[],(.clo 82 [] [(.rpo Xy),(.rpo [(.clo 83 [] [(.rpo Xy),(.rpo [(.int .i64 (4:Int))])])])]),(AB v16 v4 v13 v0 v33),[],KK⟩] (ci (Xa y1) (nJ [(AC v16 v4 v13),(AD v0 v33),(AG v33),(AF v16),(AE v0)] (ci (Uz y2) (nJ [(AC v16 v4 v13),(AD v0 v33),(AG v33),(AF v16),(AE v0)] (ci (W9 y3) (nJ [(AC v16 v4 v13),(AD v0 v33),(AG v33),(AF v16),(AE v0)] (ci (Ux y4) (nJ [(AC v16 v4 v13),(AD v0 v33),(AG v33),(AF v16),(AE v0)] (ci (Bq y5) (nJ [(AC v16 v4 v13),(AD v0 v33),(AG v33),(AF v16),(AE v0)] (ci (Uy y6) (Uk [(AC v16 v4 v13),(AD v0 v33),(AG v33),(AF v16),(AE v0)])))))))))))) (Ae q Ik Ly (gU 64 (Ae q Xr Ly (FR true (tB h λx7 y7 h=>tT q Ik Ly [⟨IG,[],(.clo 83 [] [(.rpo Xy),(.rpo [RW])]),(AB v16 v4 v13 v0 v33),[],KK⟩] (ci (Bq y7) (Uk [(AC v16 v4 v13),(AD v0 v33),(AG v33),(AF v16),(AE v0)])) (tW q Ik Ly Xr Ly (FR true (tB h λx8 y8 h=>tT q Ik Ly [⟨IG,[],(.clo 83 [] [(.rpo Xy),(.rpo [RS])]),(AB v16 v4 v13 v0 v33),[],KK⟩] (ci (Bq y8) (Uk [(AC v16 v4 v13),(AD v0 v33),(AG v33),(AF v16),(AE v0)])) (tW q Ik Ly Xr Ly (FR true (tB h λx9 y9 h=>tT q Ik Ly [⟨IG,[],(.clo 83 [] [(.rpo Xy),(.rpo [PS])]),(AB v16 v4 v13 v0 v33),[],KK⟩] (ci (Bq y9) (Uk [(AC v16 v4 v13),(AD v0 v33),(AG v33),(AF v16),(AE v0)])) (tW q Ik Ly Xr Ly (FR true (tB h λx10 y10 h=>tT q Ik Ly [(Z73 Xy (AB v16 v4 v13 v0 v33))] (ci (Bq y10) (Uk [(AC v16 v4 v13),(AD v0 v33),(AG v33),(AF v16),(AE v0)])) (tW q Ik Ly Xr Ly (FR true (tB h λx11 y11 h=>tT q Ik Ly [⟨IG,[],(.clo 83 [] [(.rpo Xy),(.rpo [nG])]),(AB v16 v4 v13 v0 v33),[],KK⟩] (ci (Bq y11) (Uk [(AC v16 v4 v13),(AD v0 v33),(AG v33),(AF v16),(AE v0)])) (tW q Ik Ly Xr Ly (FR true (tB h λx12 y12 h=>tT q Ik Ly [⟨IG,[],(.clo 83 [] [(.rpo Xy),(.rpo [(.int .i64 (6:Int))])]),(AB v16 v4 v13 v0 v33),[],KK⟩] (ci (Bq y12) (Uk [(AC v16 v4 v13),(AD v0 v33),(AG v33),(AF v16),(AE v0)])) (tW q Ik Ly Xr Ly (FR true (tB h λx13 y13 h=>tT q Ik Ly [⟨IG,[],(.clo 83 [] [(.rpo Xy),(.rpo [(.int .i64 (7:Int))])]),(AB v16 v4 v13 v0 v33),[],KK⟩] (ci (Bq y13) (Uk [(AC v16 v4 v13),(AD v0 v33),(AG v33),(AF v16),(AE v0)])) (tW q Ik Ly Xr Ly (FR true (tB h λx14 y14 h=>tT q Ik Ly [⟨IG,[],(.clo 83 [] [(.rpo Xy),(.rpo [bV])]),(AB v16 v4 v13 v0 v33),[],KK⟩] (ci (Bq y14) (Uk [(AC v16 v4 v13),(AD v0 v33),(AG v33),(AF v16),(AE v0)])) (tW q Ik Ly Xr Ly (FR true (tB h λx15 y15 h=>tT q Ik Ly [⟨IG,[],(.clo 83 [] [(.rpo Xy),(.rpo [(.int .i64 (9:Int))])]),(AB v16 v4 v13 v0 v33),[],KK⟩] (ci (Bq y15) (Uk [(AC v16 v4 v13),(AD v0 v33),(AG v33),(AF v16),(AE v0)])) (tW q Ik Ly Xr Ly (FR true (tB h λx16 y16 h=>tT q Ik Ly [(Z47 Xy 10 (AB v16 v4 v13 v0 v33))] (ci (Bq y16) (Uk [(AC v16 v4 v13),(AD v0 v33),(AG v33),(AF v16),(AE v0)])) (tW q Ik Ly Xr Ly (FR true (tB h λx17 y17 h=>tT q Ik Ly [(Z47 Xy 11 (AB v16 v4 v13 v0 v33))] (ci (Bq y17) (Uk [(AC v16 v4 v13),(AD v0 v33),(AG v33),(AF v16),(AE v0)])) (tW q Ik Ly Xr Ly (FR true (tB h λx18 y18 h=>tT q Ik Ly [(Z47 Xy 12 (AB v16 v4 v13 v0 v33))] (ci (Bq y18) (Uk [(AC v16 v4 v13),(AD v0 v33),(AG v33),(AF v16),(AE v0)])) (tW q Ik Ly Xr Ly (FR false (Ae q [2] Ly (tS h (Be [(30000,30000),(30001,30001),(37101,37101),(35002,35002),(35100,35100),(5,20000)]))))))))))))))))))))))))))))))))))))))))))))
def yn(aK:Int):=(⟨[(2,(AV.list 1 Dc 0 ([aK]:Am) (.own 6002)))],[(6002,.tok 1 37 (([aK]:Am).length))],[]⟩:St)
def K8(aK:Int):Option Am:=
 (some ([aK]:Am))
theorem P6(h:K8 v4=some v0):sP 59 [(Ru v4)] [] (lg v0 20000) [(20000,.tok 1 37 v0.length)]:=
 sG Tryz.func59 λΓ q=>gR q [0] [] [(2,bW)] [] (c1 (Bi 1 Dc (0:Int))) (gR q [2] [] [(4,(AV.list 1 Dc 0 ([v4]:Am) .exact))] [] (c1 (B9 1 Dc (0:Int) ([v4]:Am))) (Qi (⟨[(2,(AV.list 1 Dc 0 ([v4]:Am) .exact))],[],[]⟩:St) (tS h (gK (e:=.ret) (Hu jf (show Le Γ _ (yn v4) from Le.trans (Bk (st':=⟨[(2,(AV.list 1 Dc 0 ([v4]:Am) .exact))],[],[]⟩) [2] [] q) (Le.trans (Np (t:=2) (nm:=6002) (sz':=1) (λi=>Dc (([v4]:Am).getD i 0)) 37 rfl rfl (.inl ⟨rfl,rfl⟩) (λh_=>absurd h_ (by decide))) (Bk (st':=(yn v4)) [2] [6002] q))))))))
def F5(a1:TFunc)(aa6:Am):cy->Option wQ:=
 λ((i1,l2):cy)=>(bif (decide (i1<(a1.Params.length:Int))) then(Aw (A0 i1 a1.Params.length) (Aw (A0 i1 aa6.length) ((Fc (aa6.getD i1.toNat 0) (a1.Params.getD i1.toNat 0)).bind λx6=>((K8 x6).bind λx7=>(Aw (A0 (w64 (i1+1)) l2.length) (some (.next ((w64 (i1+1)),(l2.set (w64 (i1+1)).toNat x7))))))))) else(some (.done l2)))
def Lt(a1:TFunc):cy->Option wQ:=
 λ((i12,l13):cy)=>(bif (decide (i12<(((a1.Blocks.getD (0:Int).toNat (default:Ai)).Phis).length:Int))) then(Aw (A0 i12 ((a1.Blocks.getD (0:Int).toNat (default:Ai)).Phis).length) ((K8 (0:Int)).bind λx16=>(Aw (A0 (((a1.Blocks.getD (0:Int).toNat (default:Ai)).Phis).getD i12.toNat default).Dst l13.length) (some (.next ((w64 (i12+1)),(l13.set ((((a1.Blocks.getD (0:Int).toNat (default:Ai)).Phis).getD i12.toNat default).Dst).toNat x16))))))) else(some (.done l13)))
def sJ(a1:TFunc)(i12:Int):=((((a1.Blocks.getD (0:Int).toNat (default:Ai)).Phis).getD i12.toNat default).Dst)
abbrev vb:=(Int×Int×List Ac×Ey×Am)
def Kq(a1:TFunc)(aa6:Am)(a2:Ey)(a4:Int)(a3:Int)(a8:Am)(a5:List Ac):Option vb:=
 ((Ad (F5 a1 aa6) ((0:Int),a2)).bind (λx9=>(Aw (A0 (0:Int) a1.Blocks.length) ((Ad (Lt a1) ((0:Int),x9)).bind (λx18=>(some (a4,a3,a5,x18,a8)))))))
variable{v35:vb}
theorem BC(h:Kq v3 v0 v16 v4 v13 v1 v33=some v35):sP 29 [(Ha 30000),(XF v3),(ge v0)] (Z1 v16 v4 v13 v1 v33 v33.length) (.tuple []) (Z1 v35.2.2.2.1 v35.1 v35.2.1 v35.2.2.2.2 v35.2.2.1 v35.2.2.1.length):=
 sG Tryz.func29 λΓ q=>tW q [0,2,4] Rq cd Rq (tL q h cd Rq (λu (i1,l2)=>(Cs u [(Ds 13 i1)] [(YP l2.length v4 v13),(YO 35002 l2)])) (λu l3=>aG Γ (.exit 0) (O1 Wq Rq u [] [(YP l3.length v4 v13),(YO 35002 l3)])) (λ⟨i1,l2⟩ y h=>Ae q [0,2,4,11,12,13,14] Rq (gC h (λh=>tV q [0,2,4,6,7,11,12,13] Rq h λh=>tC h λc5_ h=>tB h λx6 y6 h=>tB h λx7 y7 h=>tC h λc8_ h=>tT q cd Rq [(XC x6),(Z67 30 x7 x7.length)] (c5 c5_ (N4 y6) (P6 y7) c8_ (Eq.refl l2.length)) (M6 (Le.trans (Ss 35002 (show ∀ k_,k_<l2.length->AVleL ((λi_=>AV.eraseAll (λn_=>B3 n_ Rq) ((E0 (λi=>D8 (l2.getD i [])) (w64 (i1+1)).toNat 0 [(lg x7 30)]) i_)) k_) ((λi=>D8 ((l2.set (w64 (i1+1)).toNat x7).getD i [])) k_) from(Bc (Cl ..).symm (UG (λ_ _=>rfl) (λ_=>rfl) (Gr c8_) rfl)))) (Su (λ(k_:Nat) u=>(Cs u [] [(YP k_ v4 v13),(35002,.arr 1 26 k_ (λi=>D8 ((l2.set (w64 (i1+1)).toNat x7).getD i [])))])) (show l2.length=(l2.set (w64 (i1+1)).toNat x7).length from(Cl ..).symm))) (Ae q cd Rq (tN h)))) λh=>tS h (gO (Bd (Bk Wq Rq q))))) λx9 h=>gA (tV q IB Et h λh=>tL q h IB Et (λu (i12,l13)=>(Cs u [(Ds 39 i12)] [(YP l13.length v4 v13),(YO 35002 l13)])) (λu l14=>aG Γ (.exit 2) (O1 [] Et u [] [(YP l14.length v4 v13),(YO 35002 l14)])) (λ⟨i12,l13⟩ y h=>Ae q [0,37,38,39,40] Et (gC h (λh=>tV q [0,9,37,38,39] [9,30000,30001,35002,35100,37101,9100001] h λh=>tB h λx16 y16 h=>tC h λc17_ h=>tT q IB Et [(Z67 49 x16 x16.length)] (c3 (P6 y16) c17_ (Eq.refl l13.length)) (M6 (Le.trans (Ss 35002 (show ∀ k_,k_<l13.length->AVleL ((λi_=>AV.eraseAll (λn_=>B3 n_ Et) ((E0 (λi=>D8 (l13.getD i [])) (sJ v3 i12).toNat 0 [(lg x16 49)]) i_)) k_) ((λi=>D8 ((l13.set (sJ v3 i12).toNat x16).getD i [])) k_) from(Bc (Cl ..).symm (UG (λ_ _=>rfl) (λ_=>rfl) (Gr c17_) rfl)))) (Su (λ(k_:Nat) u=>(Cs u [] [(YP k_ v4 v13),(35002,.arr 1 26 k_ (λi=>D8 ((l13.set (sJ v3 i12).toNat x16).getD i [])))])) (show l13.length=(l13.set (sJ v3 i12).toNat x16).length from(Cl ..).symm))) (Ae q IB Et (tN h)))) λh=>tS h (gO (Bd (Bk [] Et q))))) λx18 h=>nH (λst' hl19=>tS h (gK (e:=.normal) (Hu O0 hl19)))))
abbrev U8:=(Bool×Int×Int×List Ac×Ey×Am)
def G7(a2:Ey)(a4:Int)(a3:Int)(a8:Am)(a5:List Ac):Option U8:=
 (bif (a3==a4) then(some (false,a4,a3,a5,a2,a8)) else(some (true,a4,(w64 (a3+1)),a5,a2,a8)))
variable{v36:U8}
theorem N0(h:G7 v16 v4 v13 v0 v33=some v36):sP 63 ER (Z1 v16 v4 v13 v0 v33 v33.length) (.bool v36.1) (Z1 v36.2.2.2.2.1 v36.2.1 v36.2.2.1 v36.2.2.2.2.2 v36.2.2.2.1 v36.2.2.2.1.length):=
 sG Tryz.func63 λΓ q=>tW q [0] Et [0,11] Et (gC h (λh=>Ae q [2] Et (tS h (Be O0))) λh=>tW q [] Et [2] Et (tS h (Be O0)))
def Rd :Xl->Option q8:=
 λ((i7,l8):Xl)=>(bif (decide (i7<(l8.length:Int))) then(Aw (0<=i7/\0+i7.toNat<=l8.length) (Aw (0<=i7/\0+i7.toNat<=l8.length) (some (.next ((w64 (i7+((Nat.min ((0+i7.toNat)-0) (l8.length-(0+i7.toNat))):Int))),(bh l8 (0+i7.toNat) (Nat.min ((0+i7.toNat)-0) (l8.length-(0+i7.toNat))) (λi=>l8.getD (0+i) 0))))))) else(some (.done l8)))
def RK(x3:Hs):=(List.replicate (w64 x3.2).toNat (0:Int))
def wa(x3:Hs)(aM:Am):=(bh (RK x3) 0 (Nat.min aM.length ((RK x3).length-0)) (λi=>aM.getD i 0))
def wZ(l8:Am)(i7:Int):=(bh l8 (0+i7.toNat) (Nat.min ((0+i7.toNat)-0) (l8.length-(0+i7.toNat))) (λi=>l8.getD (0+i) 0))
def Ap(aM:Am)(aa3:Int):Option Am:=
 (Option.bind (α:=Unit) (bif (decide (aa3<0)) then none else(some ())) (λx1=>(match x1 with|_=>((Pw (E1 (aM.length:Int)) (E1 aa3)).bind λx3=>(Option.bind (α:=Unit) (bif (bif (decide ((0:Int)<x3.1)) then true else(decide ((9223372036854775807:Int)<x3.2))) then none else(some ())) (λx4=>(match x4 with|_=>(Aw (0<=(w64 x3.2)/\(w64 x3.2)<=(w64 x3.2)/\(w64 x3.2)<=(room:Int)) ((Ad (S:=Xl) (X:=Am) Rd (((Nat.min aM.length ((List.replicate (w64 x3.2).toNat (0:Int)).length-0)):Int),(bh (List.replicate (w64 x3.2).toNat (0:Int)) 0 (Nat.min aM.length ((List.replicate (w64 x3.2).toNat (0:Int)).length-0)) (λi=>aM.getD i 0)))).bind (λx12=>(some x12)))))))))))
theorem Se(h:Ap v0 v4=some v1):sP 76 [(ge v0),(Az v4)] [] (lg v1 20000) [(20000,.tok 1 37 v1.length)]:=
 sG Tryz.func76 λΓ q=>have hΓ:=q.own;gR q Ew [] [(4,bW)] [] (c1 (Bi 1 Dc (0:Int))) (tB h λx1 y1 h=>gJ y1 (λ_=>aG Γ .normal (⟨[(0,(ge v0)),(1,(Az v4))],[],[]⟩:St)) (λy h=>Ae q EQ [] (gC h (λh=>nomatch h) λh=>tS h (gK (Bd (Bk Ew [] q))))) (gA (tB h λx3 y3 h=>tT q [0,5,6] [] [⟨[],[],(.tuple (CD x3.1 x3.2)),[],[],[]⟩] (c1 (DA y3)) (tB h λx4 y4 h=>gJ y4 (λ_=>aG Γ .normal (⟨[(0,(ge v0)),(6,(Ru x3.2))],[],[]⟩:St)) (λy h=>tU q [0,6,26] [] (c2 (gI ((decide ((0:Int)<x3.1))==false)) (Kl (decide ((0:Int)<x3.1)))) (gC h (λh=>nomatch h) λh=>tS h (gK (Bd (Bk [0,6] [] q))))) (gA (tV q [0,7] [30] h λh=>by exact M6 (Le.trans (Ss 30 (show ∀ k_,k_<((w64 x3.2).toNat)->AVleL ((λi_=>AV.eraseAll (λn_=>B3 n_ [30]) ((λ_=>[(.int .u64 (0:Int))]) i_)) k_) ((λi=>Dc ((RK x3).getD i 0)) k_) from(λk hk=>Mh (e:=Dc) (d:=(0:Int)) (.cons (AVle.refl _) .nil) _ k (Mm hk)))) (Su (λ(k_:Nat) u=>(Cs u [(Ud 30 k_)] [(30,.arr 1 37 k_ (λi=>Dc ((RK x3).getD i 0)))])) (show(w64 x3.2).toNat=(RK x3).length from(K3 ..).symm))) (tU q Ws [30] (c1 (Eq.refl ((RK x3).length))) (M6 (Le.trans (Ss 30 (show ∀ k_,k_<((RK x3).length)->AVleL ((λi_=>AV.eraseAll (λn_=>B3 n_ [30]) ((dp (λi=>Dc ((RK x3).getD i 0)) 0 (Nat.min v0.length ((RK x3).length-0)) (λi=>Dc (v0.getD i 0))) i_)) k_) ((λi=>Dc ((wa x3 v0).getD i 0)) k_) from(Bc (Fx ..) (λk_ hk_=>(Bx (AV.eraseAll (λn_=>B3 n_ [30])) ((EX (e:=Dc) (d:=(0:Int)) (l:=(RK x3)) (s:=(λi=>v0.getD i 0)) (λ_ _=>rfl) (λ_ _=>rfl)) k_ hk_)).trans rfl)))) (Su (λ(k_:Nat) u=>(Cs u [(Ud 30 k_)] [(30,.arr 1 37 k_ (λi=>Dc ((wa x3 v0).getD i 0)))])) (show(RK x3).length=(wa x3 v0).length from(Fx ..)))) (tL q h Ws [30] (λu (i7,l8)=>(Cs u [(Ud 30 l8.length),(8,(Az i7))] [(oD 30 l8)])) (λu l9=>aG Γ (.exit 0) (⟨[(Ud 30 l9.length)],[(oD 30 l9)],[]⟩:St)) (λ⟨i7,l8⟩ y h=>Ae q [7,8,37] [30] (gC h (λh=>tC h λc10_ h=>tC h λc11_ h=>tU q Ws [30] (c4 c10_ c11_ (Eq.refl l8.length) (Eq.refl l8.length)) (tS h (gN (Le.trans (Le.trans (Ss 30 (show ∀ k_,k_<l8.length->AVleL ((λi_=>AV.eraseAll (λn_=>B3 n_ [30]) ((dp (λi=>Dc (l8.getD i 0)) (0+i7.toNat) (Nat.min ((0+i7.toNat)-0) (l8.length-(0+i7.toNat))) (λi=>(λi=>Dc (l8.getD i 0)) (0+i))) i_)) k_) ((λi=>Dc ((wZ l8 i7).getD i 0)) k_) from(Bc (Fx ..) (λk_ hk_=>(Bx (AV.eraseAll (λn_=>B3 n_ [30])) ((EX (e:=Dc) (d:=(0:Int)) (l:=l8) (s:=(λi=>l8.getD (0+i) 0)) (λ_ _=>rfl) (λ_ _=>rfl)) k_ hk_)).trans rfl)))) (Su (λ(k_:Nat) u=>(Cs u [(Ud 30 k_)] [(30,.arr 1 37 k_ (λi=>Dc ((wZ l8 i7).getD i 0)))])) (show l8.length=(wZ l8 i7).length from(Fx ..)))) Jj)))) λh=>tS h (gO (Bd (Bk [7] [30] q))))) λx12 h=>gA (Ae q [4] [30] (Qi (⟨[(4,(.vsl 30 x12.length))],[(oD 30 x12)],[]⟩:St) (tS h (gK (e:=.ret) (Hu jl (Le.trans (F0 (nm:=30) (sz:=1) (n:=x12.length) (e:=37) (f:=(λi=>Dc (x12.getD i 0))) (g:=(λi=>Dc (x12.getD i 0))) rfl ⟨rfl,trivial⟩ (λ_ _=>rfl) (by rw[hΓ];rfl)) (Ic (st':=⟨[(4,(lg x12 30))],[(30,.tok 1 37 x12.length)],[]⟩) (by kernel_rfl)))))))))))))))))
abbrev MQ:=(Am×Int)
def Pm(a0:C5):Option MQ:=
 ((K8 a0.Imm).bind λx1=>((Ap x1 a0.Lanes).bind λx2=>(some (x2,(0:Int)))))
variable{v37:MQ}
theorem LU(h:Pm v8=some v37):sP 48 [(IM v8)] [] (.tuple (jt v37.1 v37.2)) [(20000,.tok 1 37 v37.1.length)]:=
 sG Tryz.func48 λΓ q=>gR q [1] [1] [(2,bW)] [] (c1 (Bi 1 Dc (0:Int))) (tB h λx1 y1 h=>tB h λx2 y2 h=>tT q Cn [9] [⟨[],[(20000,6)],(lg x1 20000),[(20000,.tok 1 37 x1.length)],[],[]⟩,⟨[],jm,(lg x2 20000),[(20000,.tok 1 37 x2.length)],[],[]⟩] (c2 (P6 y1) (Se y2)) (tS h (Be [(9,20000)])))
def Bf(aK:Int)(a2:Ey)(a4:Int)(a3:Int)(a8:Am)(a5:List Ac):Option Int:=
 (Aw (A0 aK a2.length) (Aw (A0 (0:Int) (a2.getD aK.toNat []).length) (some ((a2.getD aK.toNat []).getD (0:Int).toNat (0:Int)))))
variable{v38:Int}
theorem Cr(h:Bf v4 v16 v13 v21 v0 v33=some v38):sP 64 [(Ha 30000),(Az v4)] (Z1 v16 v13 v21 v0 v33 v33.length) (.int .u64 v38) (Z1 v16 v13 v21 v0 v33 v33.length):=
 sG Tryz.func64 λΓ q=>Ae q Ew Et (tC h λc1_ h=>tC h λc2_ h=>tU q [4] Et (c3 c1_ (Eq.refl v16.length) c2_) (tS h (Be O0)))
def D2(aK:Int)(a2:Ey)(a4:Int)(a3:Int)(a8:Am)(a5:List Ac):Option Bool:=
 ((Bf aK a2 a4 a3 a8 a5).bind λx1=>(some (x1==1)))
theorem Ii(h:D2 v4 v16 v13 v21 v0 v33=some v5):sP 77 [(Ha 30000),(Az v4)] (Z1 v16 v13 v21 v0 v33 v33.length) (.bool v5) (Z1 v16 v13 v21 v0 v33 v33.length):=
 sG Tryz.func77 λΓ q=>Ae q Ew Et (tB h λx1 y1 h=>tT q [4] Et [(zy x1 v16 v13 v21 v0 v33 v33.length)] (ci (Cr y1) (Uk [(.row 85 (YN v16.length v13 v21)),(.row 79 (RV 35100 v0.length v33 37101)),(.tok 3 49 v33.length),(.arr 1 26 v16.length (λi=>D8 (v16.getD i []))),(.arr 1 5 v0.length (λi=>Ur (v0.getD i 0))),(.obj (.tab .i64 WX))])) (tS h (Be O0)))
def J2(a0:C5)(a2:Ey)(a4:Int)(a3:Int)(a8:Am)(a5:List Ac):Option MQ:=
 (Aw (A0 (0:Int) a0.Args.length) ((D2 (a0.Args.getD (0:Int).toNat (0:Int)) a2 a4 a3 a8 a5).bind λx2=>(bif x2 then(Aw (A0 (1:Int) a0.Args.length) (Aw (A0 (a0.Args.getD (1:Int).toNat (0:Int)) a2.length) (some ((a2.getD (a0.Args.getD (1:Int).toNat (0:Int)).toNat []),(0:Int))))) else(Aw (A0 (2:Int) a0.Args.length) (Aw (A0 (a0.Args.getD (2:Int).toNat (0:Int)) a2.length) (some ((a2.getD (a0.Args.getD (2:Int).toNat (0:Int)).toNat []),(0:Int))))))))
theorem Yo(h:J2 v8 v16 v4 v13 v0 v33=some v37):sP 49 [(Ha 30000),(IM v8)] (Z1 v16 v4 v13 v0 v33 v33.length) (.tuple [(ge v37.1),(Az v37.2)]) (Z1 v16 v4 v13 v0 v33 v33.length):=
 sG Tryz.func49 λΓ q=>gR q Ov Vi [(4,bW)] [] (c1 (Bi 1 Dc (0:Int))) (tC h λc1_ h=>tB h λx2 y2 h=>tT q [0,3,11] Vi [(Z46 x2 v16 v4 v13 v0 v33 v33.length)] (KO c1_ (Ii y2) (Uk [(.row 85 (YN v16.length v4 v13)),(.row 79 (RV 35100 v0.length v33 37101)),(.tok 3 49 v33.length),(.arr 1 26 v16.length (λi=>D8 (v16.getD i []))),(.arr 1 5 v0.length (λi=>Ur (v0.getD i 0))),(.obj (.tab .i64 WX))])) (gC h (λh=>tC h λc3_ h=>tC h λc4_ h=>tU q Ow Et (c3 c3_ c4_ (Eq.refl v16.length)) (tS h (Be O0))) λh=>tC h λc5_ h=>tC h λc6_ h=>tU q Ow Et (c3 c5_ c6_ (Eq.refl v16.length)) (tS h (Be O0))))
def CS(aK:Int)(aX:Int)(aaD:Int):Option Hs:=
 ((Ep aX).bind λx1=>((bif ((!x1)==false) then Ep aaD else some false).bind λx2=>(bif (bif (bif (!x1) then true else(!x2)) then true else(decide (aaD<=aX))) then(some ((0:Int),(1:Int))) else((Fc aK aX).bind λx3=>(some (x3,(0:Int)))))))
theorem cN(h:CS v4 v13 v21=some v20):sP 51 [(Ru v4),(Az v13),(Az v21)] [] (.tuple [(Ru v20.1),(Az v20.2)]) []:=
 sG Tryz.func51 λΓ q=>Ae q Zy [] (tB h λx1 y1 h=>tB h λx2 y2 h=>tT q [0,1,20] [] [(Z8 x1),(Z8 x2)] (d5_ (Gl y1) (gI ((!x1)==false)) (λ(hg:((!x1)==false)=true)=>(Gl (B0 hg y2))) (gI ((!x1)==false)) (Kl (!x1)) (Mn ((bif (!x1) then true else(!x2))==false) (c1 (Kl (bif (!x1) then true else(!x2)))))) (gC h (λh=>Ae q [6,7] [] (tS h (Be []))) λh=>tB h λx3 y3 h=>tT q [6,7] [] [(XC x3)] (c1 (N4 y3)) (tS h (Be []))))
def H5(a0:C5)(a2:Ey)(a4:Int)(a3:Int)(a8:Am)(a5:List Ac):Option MQ:=
 (Aw (A0 (0:Int) a0.Args.length) ((Bf (a0.Args.getD (0:Int).toNat (0:Int)) a2 a4 a3 a8 a5).bind λx2=>((CS x2 (w64 a0.Imm) a0.Bits).bind λx3=>((K8 x3.1).bind λx4=>(some (x4,x3.2))))))
theorem Vh(h:H5 v8 v16 v4 v13 v0 v33=some v37):sP 78 [(IM v8),(.rpo [(.clo 51 [] [])]),(.rpo ER)] (Z1 v16 v4 v13 v0 v33 v33.length) (.tuple (jt v37.1 v37.2)) (Z7 v16 v4 v13 v0 v33 v33.length v37.1.length):=
 sG Tryz.func78 λΓ q=>gR q Y7 Vi [(4,bW)] [] (c1 (Bi 1 Dc (0:Int))) (tC h λc1_ h=>tB h λx2 y2 h=>tB h λx3 y3 h=>tT q [6,7] Et [(zy x2 v16 v4 v13 v0 v33 v33.length),⟨[],[],(.tuple [(Ru x3.1),(Az x3.2)]),[],[],[]⟩] (KO c1_ (Cr y2) (nJ [(.row 85 (YN v16.length v4 v13)),(.row 79 (RV 35100 v0.length v33 37101)),(.tok 3 49 v33.length),(.arr 1 26 v16.length (λi=>D8 (v16.getD i []))),(.arr 1 5 v0.length (λi=>Ur (v0.getD i 0))),(.obj (.tab .i64 WX))] (c1 (cN y3)))) (tB h λx4 y4 h=>tT q Ow rJ [(Z67 25 x4 x4.length)] (c1 (P6 y4)) (tS h (Be wS))))
def Yh(aK:Int)(aX:Int)(aaD:Int):Option Hs:=
 ((Ep aX).bind λx1=>((bif ((!x1)==false) then Ep aaD else some false).bind λx2=>(bif (bif (bif (!x1) then true else(!x2)) then true else(decide (aX<=aaD))) then(some ((0:Int),(1:Int))) else((Fc aK aaD).bind λx3=>(some (x3,(0:Int)))))))
theorem YC(h:Yh v4 v13 v21=some v20):sP 52 [(Ru v4),(Az v13),(Az v21)] [] (.tuple [(Ru v20.1),(Az v20.2)]) []:=
 sG Tryz.func52 λΓ q=>Ae q Zy [] (tB h λx1 y1 h=>tB h λx2 y2 h=>tT q [0,2,20] [] [(Z8 x1),(Z8 x2)] (d5_ (Gl y1) (gI ((!x1)==false)) (λ(hg:((!x1)==false)=true)=>(Gl (B0 hg y2))) (gI ((!x1)==false)) (Kl (!x1)) (Mn ((bif (!x1) then true else(!x2))==false) (c1 (Kl (bif (!x1) then true else(!x2)))))) (gC h (λh=>Ae q [6,7] [] (tS h (Be []))) λh=>tB h λx3 y3 h=>tT q [6,7] [] [(XC x3)] (c1 (N4 y3)) (tS h (Be []))))
def Gp(a0:C5)(a2:Ey)(a4:Int)(a3:Int)(a8:Am)(a5:List Ac):Option MQ:=
 (Aw (A0 (0:Int) a0.Args.length) ((Bf (a0.Args.getD (0:Int).toNat (0:Int)) a2 a4 a3 a8 a5).bind λx2=>((Yh x2 (w64 a0.Imm) a0.Bits).bind λx3=>((K8 x3.1).bind λx4=>(some (x4,x3.2))))))
theorem Tm(h:Gp v8 v16 v4 v13 v0 v33=some v37):sP 78 [(IM v8),(.rpo [(.clo 52 [] [])]),(.rpo ER)] (Z1 v16 v4 v13 v0 v33 v33.length) (.tuple (jt v37.1 v37.2)) (Z7 v16 v4 v13 v0 v33 v33.length v37.1.length):=
 sG Tryz.func78 λΓ q=>gR q Y7 Vi [(4,bW)] [] (c1 (Bi 1 Dc (0:Int))) (tC h λc1_ h=>tB h λx2 y2 h=>tB h λx3 y3 h=>tT q [6,7] Et [(zy x2 v16 v4 v13 v0 v33 v33.length),⟨[],[],(.tuple [(Ru x3.1),(Az x3.2)]),[],[],[]⟩] (KO c1_ (Cr y2) (nJ [(.row 85 (YN v16.length v4 v13)),(.row 79 (RV 35100 v0.length v33 37101)),(.tok 3 49 v33.length),(.arr 1 26 v16.length (λi=>D8 (v16.getD i []))),(.arr 1 5 v0.length (λi=>Ur (v0.getD i 0))),(.obj (.tab .i64 WX))] (c1 (YC y3)))) (tB h λx4 y4 h=>tT q Ow rJ [(Z67 25 x4 x4.length)] (c1 (P6 y4)) (tS h (Be wS))))
def O7(aH:Int):Option Int:=
 (Option.bind (α:=Bool) (bif (aH==8) then(some (aH==8)) else(bif (aH==16) then(some (aH==16)) else(bif (aH==32) then(some (aH==32)) else(some (aH==64))))) (λx2=>(bif x2 then(some (w64 (Int.tdiv aH (8:Int)))) else(some (0:Int)))))
theorem DL(h:O7 v4=some v13):sP 104 [(Az v4)] [] (.int .i64 v13) []:=
 sG Tryz.func104 λΓ q=>tW q [0] [] Ov [] (tB h λx2 y2 h=>gJ y2 (λb1=>aG Γ .normal (⟨[(0,(Az v4)),(4,(.bool b1))],[],[]⟩:St)) (λy h=>Ae q Ik [] (gC h (λh=>tS h (gK (Bd (Bk Wq [] q)))) λh=>Ae q Ik [] (gC h (λh=>tS h (gK (Bd (Bk Wq [] q)))) λh=>Ae q Ik [] (gC h (λh=>tS h (gK (Bd (Bk Wq [] q)))) λh=>Ae q Wq [] (tS h (gK (Bd Jj))))))) (gA (gC h (λh=>tU q [2] [] (c1 (show((8:Int)≠0) from(by decide))) (tS h (Be []))) λh=>Ae q [2] [] (tS h (Be [])))))
def Abr(aO:Int):=((decide (aO<1))==false)
abbrev Abk:=(Bool×List Ac×Am)
def Ms(aN:Int)(aO:Int)(a6:Am)(aB:List Ac):Option Abk:=
 (bif (bif (decide (aO<1)) then true else(decide ((a6.length:Int)<aO))) then(some (false,aB,a6)) else(some ((decide (aN<=(E1 (w64 ((a6.length:Int)-aO))))),aB,a6)))
variable{v39:Abk}
theorem Xd(h:Ms v4 v13 v0 v33=some v39):sP 105 [(Ha 30000),(Ru v4),(Az v13)] (Z5 v0 v33 v33.length) (.bool v39.1) (Z5 v39.2.2 v39.2.1 v39.2.1.length):=
 sG Tryz.func105 λΓ q=>Ae q Zy Hb (tU q [0,1,2,21] Hb (KO (gI (false==false)) (Kl false) (gI6 (Abr v13) (c1 (Kl (decide (v13<1)))))) (gC h (λh=>Ae q [6] Hb (tS h (Be Xo))) λh=>Ae q [6] Hb (tS h (Be Xo))))
abbrev Abl:=(Int×Int×Int×List Ac)
def Ih(aaF:Int)(a6:Am):Abl->Option (LR (Int×Int×Int×List Ac) (Int×List Ac)):=
 λ((i1,i2,i3,l4):Abl)=>(bif (decide (i3<aaF)) then(Aw (A0 i1 a6.length) (Aw (l4.length+([(⟨false,i1,(a6.getD i1.toNat 0)⟩:Ac)]:List Ac).length<=room) (Aw (0<=(w64 ((8:Int)*i3))) (some (.next ((E1 (i1+1)),(Lq .or .u64 i2 (Tq .u64 (E1 (a6.getD i1.toNat 0)) (w64 ((8:Int)*i3)))),(w64 (i3+1)),(l4++([(⟨false,i1,(a6.getD i1.toNat 0)⟩:Ac)]:List Ac)))))))) else(some (.done (i2,l4))))
def sK(i1:Int)(a6:Am):=([(⟨false,i1,(a6.getD i1.toNat 0)⟩:Ac)]:List Ac)
abbrev jI:=(Int×List Ac×Am)
def Nc(aN:Int)(aaF:Int)(a6:Am)(aB:List Ac):Option jI:=
 ((Ad (Ih aaF a6) (aN,(0:Int),(0:Int),aB)).bind (λ(i5,l6)=>(some (i5,l6,a6))))
variable{v40:jI}
theorem HP(h:Nc v4 v13 v0 v33=some v40):sP 106 [(Ha 30000),(Ru v4),(Az v13)] (Z5 v0 v33 v33.length) (Ru v40.1) (Z5 v40.2.2 v40.2.1 v40.2.1.length):=
 sG Tryz.func106 λΓ q=>tW q Zy Hb [0,1,2,7] Hb (Ae q VU Hb (tL q h VU Hb (λu (i1,i2,i3,l4)=>(Cs u [(1,(Ru i1)),(7,(Ru i2)),(Ds 11 i3)] [(bZ 30000 35000 v0.length l4 37001),(KR 37001 l4.length)])) (λu (i5,l6)=>aG Γ (.exit 0) (O1 [7] Hb u [(7,(Ru i5))] [(bZ 30000 35000 v0.length l6 37001),(KR 37001 l6.length)])) (λ⟨i1,i2,i3,l4⟩ y h=>Ae q [0,1,7,10,11,12] Hb (gC h (λh=>Ae q [0,1,7,8,10,11] Hb (tC h λc7_ h=>tU q [0,1,7,8,9,10,11] Hb (c2 c7_ (Eq.refl v0.length)) (tC h λc8_ h=>gR q [0,1,7,8,9,10,11] Hb (zw (sK i1 v0) l4) [] (c5 (B9 3 E2 (default:Ac) (sK i1 v0)) (Eq.refl l4.length) c8_ (Kh 3 37001 E2 (default:Ac) l4 (sK i1 v0)) (Ft l4 (sK i1 v0))) (tV q VU Hb h λh=>tW q VU Hb VU Hb (tN h))))) λh=>tS h (gO (Bd (Bk [7] Hb q))))) λx10 h=>(match x10,h with|⟨i5,l6⟩,h=>gA (Ae q [6] Hb (tS h (Be Xo))))))
abbrev Abm:=(Int×Int×Am×List Ac×Am)
def I7(aO:Int)(x3:Int):Abm->Option (LR (Int×Int×Am×List Ac×Am) ((Am×List Ac×Am) ⊕ (List Ac×Am))):=
 λ((i5,i6,l7,l8,l9):Abm)=>(bif (decide (i6<((List.replicate aO.toNat (0:Int)).length:Int))) then((Ms i5 x3 l9 l8).bind λx15=>(Aw (l9.length=x15.2.2.length) (bif (!x15.1) then(some (.done (.inr (x15.2.1,x15.2.2)))) else((Nc i5 x3 x15.2.2 x15.2.1).bind λx17=>(Aw (x15.2.2.length=x17.2.2.length) (Aw (A0 i6 l7.length) (some (.next ((E1 (i5+(E1 x3))),(w64 (i6+1)),(l7.set i6.toNat x17.1),x17.2.1,x17.2.2))))))))) else(some (.done (.inl (l7,l8,l9)))))
abbrev QO:=(List Ac×Am)
def JL :QO->Option (LR (List Ac×Am) (Am×Int×List Ac×Am)):=
 λ(s_:QO)=>match s_ with|(l1,l2)=>(some (.done (([]:Am),(8:Int),l1,l2)))
abbrev vd:=(Am×Int×List Ac×Am)
def RI(Γ:Il)(aN:Int)(aH:Int)(aO:Int)(a6:Am)(aB:List Ac)(r:vd):Exit->St->Prop:=fK Tryz.prog Γ Tryz.f80.results.toList (Z5 a6 aB aB.length) (.tuple (jt r.1 r.2.1)) (xF r.2.2.2.length r.2.2.1 r.2.2.1.length r.2.2.2 r.1.length)
def lF:AV:=bW
def wb(l2:Am)(l1:List Ac):List Vf:=(Z9 30000 35000 l2 l1 37001 l1.length)
def yr(l10:Am)(l12:Am)(l11:List Ac):List Vf:=[(oD 26 l10),(bZ 30000 35000 l12.length l11 37001),(PW 35000 l12),(KR 37001 l11.length)]
def yq(a6:Am)(aB:List Ac):=(⟨[(8,lF),(9,RW)],(Z9 30000 35000 a6 aB 37001 aB.length),[]⟩:St)
def yp(l2:Am)(l1:List Ac):=(⟨[(8,(AV.list 1 Dc 0 ([]:Am) (.own 6008))),(9,bV)],[(6008,.tok 1 37 (([]:Am).length)),(bZ 30000 35000 l2.length l1 37001),(PW 35000 l2),(KR 37001 l1.length)],[]⟩:St)
def yo(a6:Am)(aB:List Ac):=(⟨[(8,(AV.list 1 Dc 0 ([]:Am) (.own 6008))),(9,RW)],[(6008,.tok 1 37 (([]:Am).length)),(bZ 30000 35000 a6.length aB 37001),(PW 35000 a6),(KR 37001 aB.length)],[]⟩:St)
def Rb(aN:Int)(aH:Int)(aO:Int)(a6:Am)(aB:List Ac):Option vd:=
 ((N9 (S:=QO) (X:=vd) ((O7 aH).bind λx3=>(bif (bif (bif (x3==0) then true else(decide (aO<0))) then true else(decide ((16:Int)<aO))) then(some (.done (([]:Am),(1:Int),aB,a6))) else(Aw (0<=aO/\aO<=aO/\aO<=(room:Int)) ((Ad (I7 aO x3) (aN,(0:Int),(List.replicate aO.toNat (0:Int)),aB,a6)).bind (λx20=>(match x20 with|(.inl (l10,l11,l12))=>(some (.done (l10,(0:Int),l11,l12)))|(.inr (l13,l14))=>(some (.next (l13,l14))))))))) JL).bind (λx23=>(some x23)))
variable{v41:vd}
theorem QE(h:Rb v4 v13 v21 v0 v33=some v41):sP 80 [(Ha 30000),(Ru v4),(Az v13),(Az v21)] (Z5 v0 v33 v33.length) (.tuple (jt v41.1 v41.2.1)) (xF v41.2.2.2.length v41.2.2.1 v41.2.2.1.length v41.2.2.2 v41.1.length):=
 sG Tryz.func80 λΓ q=>have hΓ:=q.own;gR q WG Hb [(8,lF)] [] (c1 (Bi 1 Dc (0:Int))) (tB h λx23 y23 h=>gS y23 (λ(s_:QO)=>match s_ with|(l1,l2)=>0) (λ(s_:QO)=>match s_ with|(l1,l2)=>(⟨[],(wb l2 l1),[]⟩:St)) (λr_=>aR (RI Γ v4 v13 v21 v0 v33 r_)) (λy h=>tB h λx3 y3 h=>tT q [0,1,3,10] Hb [(XD x3)] (c1 (DL y3)) (tU q [0,1,3,10,24] Hb (c4 (gI ((x3==0)==false)) (Kl (x3==0)) (gI ((bif (x3==0) then true else(decide (v21<0)))==false)) (Kl (bif (x3==0) then true else(decide (v21<0))))) (gC h (λh=>gR q So Hb [(8,lF)] [] (c1 (Bi 1 Dc (0:Int))) (Qi (yq v0 v33) (tS h (WV (Lc (Hu wV (show Le Γ _ (yo v0 v33) from Le.trans (Bk (st':=(yq v0 v33)) So Hb q) (Le.trans (Np (t:=8) (nm:=6008) (sz':=1) (λi=>Dc (([]:Am).getD i 0)) 37 rfl rfl (.inl ⟨rfl,rfl⟩) (λh_=>absurd h_ (by decide))) (Bk (st':=(yo v0 v33)) So rV q))))))))) λh=>tV q [0,1,10,11] V5 h λh=>by exact M6 (Le.trans (Ss 26 (show ∀ k_,k_<(v21.toNat)->AVleL ((λi_=>AV.eraseAll (λn_=>B3 n_ V5) ((λ_=>[(.int .u64 (0:Int))]) i_)) k_) ((λi=>Dc ((List.replicate v21.toNat (0:Int)).getD i 0)) k_) from(λk hk=>Mh (e:=Dc) (d:=(0:Int)) (.cons (AVle.refl _) .nil) _ k (Mm hk)))) (Su (λ(k_:Nat) u=>(Cs u [(11,(.vsl 26 k_))] [(26,.arr 1 37 k_ (λi=>Dc ((List.replicate v21.toNat (0:Int)).getD i 0)))])) (show v21.toNat=(List.replicate v21.toNat (0:Int)).length from(K3 ..).symm))) (Ae q fu V5 (tL q h fu V5 (λu (i5,i6,l7,l8,l9)=>(Cs u [(1,(Ru i5)),(11,(.vsl 26 l7.length)),(Ds 29 i6)] [(oD 26 l7),(bZ 30000 35000 l9.length l8 37001),(PW 35000 l9),(KR 37001 l8.length)])) (λu x_=>match x_ with|(.inl (l10,l11,l12))=>aG Γ (.exit 0) (⟨[(11,(.vsl 26 l10.length))],(yr l10 l12 l11),[]⟩:St)|(.inr (l13,l14))=>aG Γ (.goto 0) (⟨[],(Z9 30000 35000 l14 l13 37001 l13.length),[]⟩:St)) (λ⟨i5,i6,l7,l8,l9⟩ y h=>Ae q [0,1,10,11,28,29,30] V5 (gC h (λh=>Ae q [0,1,10,11,12,28,29] V5 (tB h λx15 y15 h=>tC h λc16_ h=>tT q [0,1,10,11,12,28,29,36] V5 [⟨Xo,[],(.bool x15.1),(Z5 x15.2.2 x15.2.1 x15.2.1.length),[],[]⟩] (c1 (Xd y15)) (gC h (λh=>tS h (gO (Bd (Bk [] Hb q)))) λh=>tB h λx17 y17 h=>tC h λc18_ h=>tC h λc19_ h=>tT q fu V5 [⟨Xo,[],(Ru x17.1),(Z5 x17.2.2 x17.2.1 x17.2.1.length),[],[]⟩] (c3 (HP y17) c19_ (Eq.refl l7.length)) (M6 (Le.trans (Ss 26 (show ∀ k_,k_<l7.length->AVleL ((λi_=>AV.eraseAll (λn_=>B3 n_ V5) ((E0 (λi=>Dc (l7.getD i 0)) i6.toNat 0 [(Ru x17.1)]) i_)) k_) ((λi=>Dc ((l7.set i6.toNat x17.1).getD i 0)) k_) from(Bc (Cl ..).symm (λk_ hk_=>(Bx (AV.eraseAll (λn_=>B3 n_ V5)) ((Fs (λ_ _=>rfl) (Gr c19_) rfl) k_ hk_)).trans rfl)))) (Su (λ(k_:Nat) u=>(Cs u [(11,(.vsl 26 k_))] [(26,.arr 1 37 k_ (λi=>Dc ((l7.set i6.toNat x17.1).getD i 0)))])) (show l7.length=(l7.set i6.toNat x17.1).length from(Cl ..).symm))) (tW q fu V5 fu V5 (tN h)))))) λh=>tS h (gO (Bd (Bk [11] V5 q))))) λx20 h=>(match x20,h with | .inl ⟨l10,l11,l12⟩,h=>gA (Ae q So V5 (Qi (⟨[(8,(.vsl 26 l10.length)),(9,Pz)],(yr l10 l12 l11),[]⟩:St) (tS h (WV (Lc (Hu [(30000,30000),(37001,37001),(35000,35000),(26,20000)] (Le.trans (F0 (nm:=26) (sz:=1) (n:=l10.length) (e:=37) (f:=(λi=>Dc (l10.getD i 0))) (g:=(λi=>Dc (l10.getD i 0))) rfl ⟨rfl,trivial⟩ (λ_ _=>rfl) (by rw[hΓ];rfl)) (Ic (st':=⟨[(8,(lg l10 26)),(9,Pz)],[(26,.tok 1 37 l10.length),(bZ 30000 35000 l12.length l11 37001),(PW 35000 l12),(KR 37001 l11.length)],[]⟩) (by kernel_rfl))))))))) | .inr ⟨l13,l14⟩,h=>nH (λst' hl22=>tS h (mF (Le.trans hl22 Jj))))))))) (λ⟨l1,l2⟩ y h=>gR q So Hb [(8,lF)] [] (c1 (Bi 1 Dc (0:Int))) (Qi (⟨[(8,lF),(9,bV)],(wb l2 l1),[]⟩:St) (tS h (WV (Lc (Hu wV (show Le Γ _ (yp l2 l1) from Le.trans (Bk (st':=⟨[(8,lF),(9,bV)],(wb l2 l1),[]⟩) So Hb q) (Le.trans (Np (t:=8) (nm:=6008) (sz':=1) (λi=>Dc (([]:Am).getD i 0)) 37 rfl rfl (.inl ⟨rfl,rfl⟩) (λh_=>absurd h_ (by decide))) (Bk (st':=(yp l2 l1)) So rV q))))))))) (Pu (λst' hk=>tS h (gK hk))))
abbrev jJ:=(Am×Int×Int×Int×List Ac×Ey×Am)
def Fa(a0:C5)(a2:Ey)(a4:Int)(a3:Int)(a8:Am)(a5:List Ac):Option jJ:=
 (Aw (A0 (0:Int) a0.Args.length) ((Bf (a0.Args.getD (0:Int).toNat (0:Int)) a2 a4 a3 a8 a5).bind λx2=>((Rb x2 a0.Bits a0.Lanes a8 a5).bind λx3=>(Aw (a8.length=x3.2.2.2.length) (some (x3.1,x3.2.1,a4,a3,x3.2.2.1,a2,x3.2.2.2))))))
variable{v42:jJ}
theorem S9(h:Fa v8 v16 v4 v13 v0 v33=some v42):sP 53 [(Ha 30000),(IM v8)] (Z1 v16 v4 v13 v0 v33 v33.length) (.tuple (jt v42.1 v42.2.1)) (Z7 v42.2.2.2.2.2.1 v42.2.2.1 v42.2.2.2.1 v42.2.2.2.2.2.2 v42.2.2.2.2.1 v42.2.2.2.2.1.length v42.1.length):=
 sG Tryz.func53 λΓ q=>gR q Ov Vi [(4,bW)] [] (c1 (Bi 1 Dc (0:Int))) (tC h λc1_ h=>tB h λx2 y2 h=>tB h λx3 y3 h=>tC h λc4_ h=>tT q Ow rL [(zy x2 v16 v4 v13 v0 v33 v33.length),⟨rK,[(20000,20)],(.tuple (jt x3.1 x3.2.1)),(xF x3.2.2.2.length x3.2.2.1 x3.2.2.1.length x3.2.2.2 x3.1.length),[],[]⟩] (KO c1_ (Cr y2) (nJ [(.row 85 (YN v16.length v4 v13)),(.row 79 (RV 35100 v0.length v33 37101)),(.tok 3 49 v33.length),(.arr 1 26 v16.length (λi=>D8 (v16.getD i []))),(.arr 1 5 v0.length (λi=>Ur (v0.getD i 0))),(.obj (.tab .i64 WX))] (c1 (QE y3)))) (tS h (Be wT)))
abbrev Abn:=(Int×Int×Int×List Ac×Am)
def Ho(aaF:Int):Abn->Option (LR (Int×Int×Int×List Ac×Am) (List Ac×Am)):=
 λ((i1,i2,i3,l4,l5):Abn)=>(bif (decide (i3<aaF)) then(Aw (A0 i1 l5.length) (Aw (l4.length+([(⟨true,i1,(wP i2)⟩:Ac)]:List Ac).length<=room) (some (.next ((E1 (i1+1)),(Oz .u64 i2 (8:Int)),(w64 (i3+1)),(l4++([(⟨true,i1,(wP i2)⟩:Ac)]:List Ac)),(l5.set i1.toNat (wP i2))))))) else(some (.done (l4,l5))))
def sL(i1:Int)(i2:Int):=([(⟨true,i1,(wP i2)⟩:Ac)]:List Ac)
def Mf(aN:Int)(aaF:Int)(aK:Int)(a6:Am)(aB:List Ac):Option QO:=
 ((Ad (Ho aaF) (aN,aK,(0:Int),aB,a6)).bind (λ(l6,l7)=>(some (l6,l7))))
variable{v43:QO}
theorem FW(h:Mf v4 v13 v21 v0 v33=some v43):sP 107 [(Ha 30000),(Ru v4),(Az v13),(Ru v21)] (Z5 v0 v33 v33.length) (.tuple []) (Z5 v43.2 v43.1 v43.1.length):=
 sG Tryz.func107 λΓ q=>Ae q HB Hb (tL q h HB Hb (λu (i1,i2,i3,l4,l5)=>(Cs u [(1,(Ru i1)),(3,(Ru i2)),(Ds 10 i3)] (Z9 30000 35000 l5 l4 37001 l4.length))) (λu (l6,l7)=>aG Γ (.exit 0) (⟨[],(Z9 30000 35000 l7 l6 37001 l6.length),[]⟩:St)) (λ⟨i1,i2,i3,l4,l5⟩ y h=>Ae q [0,1,3,9,10,11] Hb (gC h (λh=>Ae q [0,1,3,8,9,10] Hb (tC h λc8_ h=>tU q [0,1,3,8,9,10] Hb (c2 c8_ (Eq.refl l5.length)) (M6 (Le.trans (Ss 35000 (show ∀ k_,k_<l5.length->AVleL ((λi_=>AV.eraseAll (λn_=>B3 n_ Hb) ((E0 (λi=>Ur (l5.getD i 0)) i1.toNat 0 [(.int .u8 (wP i2))]) i_)) k_) ((λi=>Ur ((l5.set i1.toNat (wP i2)).getD i 0)) k_) from(Bc (Cl ..).symm (λk_ hk_=>(Bx (AV.eraseAll (λn_=>B3 n_ Hb)) ((Fs (λ_ _=>rfl) (Gr c8_) rfl) k_ hk_)).trans rfl)))) (Su (λ(k_:Nat) u=>(Cs u [] [(bZ 30000 35000 k_ l4 37001),(35000,.arr 1 5 k_ (λi=>Ur ((l5.set i1.toNat (wP i2)).getD i 0)))])) (show l5.length=(l5.set i1.toNat (wP i2)).length from(Cl ..).symm))) (tC h λc9_ h=>gR q HB Hb (zw (sL i1 i2) l4) [] (c5 (B9 3 E2 (default:Ac) (sL i1 i2)) (Eq.refl l4.length) c9_ (Kh 3 37001 E2 (default:Ac) l4 (sL i1 i2)) (Ft l4 (sL i1 i2))) (tU q HB Hb (c1 (show(0<=(8:Int)) from(by decide))) (tW q HB Hb HB Hb (tN h))))))) λh=>tS h (gO (Bd (Bk [] Hb q))))) λx10 h=>(match x10,h with|⟨l6,l7⟩,h=>nH (λst' hl11=>tS h (gK (e:=.normal) (Hu Xo hl11)))))
abbrev Abo:=(Int×Int×List Ac×Am)
def Hy(aJ:Am)(x3:Int):Abo->Option (LR (Int×Int×List Ac×Am) ((List Ac×Am) ⊕ (List Ac×Am))):=
 λ((i4,i5,l6,l7):Abo)=>(bif (decide (i5<(aJ.length:Int))) then(Aw (A0 i5 aJ.length) ((Ms i4 x3 l7 l6).bind λx13=>(Aw (l7.length=x13.2.2.length) (bif (!x13.1) then(some (.done (.inr (x13.2.1,x13.2.2)))) else((Mf i4 x3 (aJ.getD i5.toNat 0) x13.2.2 x13.2.1).bind λx15=>(Aw (x13.2.2.length=x15.2.length) (some (.next ((E1 (i4+(E1 x3))),(w64 (i5+1)),x15.1,x15.2))))))))) else(some (.done (.inl (l6,l7)))))
def HN :QO->Option (LR (List Ac×Am) (Int×List Ac×Am)):=
 λ(s_:QO)=>match s_ with|(l1,l2)=>(some (.done ((8:Int),l1,l2)))
def PM(Γ:Il)(aN:Int)(aH:Int)(aJ:Am)(a6:Am)(aB:List Ac)(r:jI):Exit->St->Prop:=fK Tryz.prog Γ Tryz.f81.results.toList (Z5 a6 aB aB.length) (Az r.1) (Z5 r.2.2 r.2.1 r.2.1.length)
def Pp(aN:Int)(aH:Int)(aJ:Am)(a6:Am)(aB:List Ac):Option jI:=
 ((N9 (S:=QO) (X:=jI) ((O7 aH).bind λx3=>(bif (bif (x3==0) then true else(decide ((16:Int)<(aJ.length:Int)))) then(some (.done ((1:Int),aB,a6))) else((Ad (Hy aJ x3) (aN,(0:Int),aB,a6)).bind (λx17=>(match x17 with|(.inl (l8,l9))=>(some (.done ((0:Int),l8,l9)))|(.inr (l10,l11))=>(some (.next (l10,l11)))))))) HN).bind (λx20=>(some x20)))
theorem LY(h:Pp v4 v13 v0 v1 v33=some v40):sP 81 [(Ha 30000),(Ru v4),(Az v13),(ge v0)] (Z5 v1 v33 v33.length) (Az v40.1) (Z5 v40.2.2 v40.2.1 v40.2.1.length):=
 sG Tryz.func81 λΓ q=>Ae q WG Hb (tB h λx20 y20 h=>gS y20 (λ(s_:QO)=>match s_ with|(l1,l2)=>0) (λ(s_:QO)=>match s_ with|(l1,l2)=>(⟨[],(Z9 30000 35000 l2 l1 37001 l1.length),[]⟩:St)) (λr_=>aR (PM Γ v4 v13 v0 v1 v33 r_)) (λy h=>tB h λx3 y3 h=>tT q [0,1,3,9] Hb [(XD x3)] (c1 (DL y3)) (tU q [0,1,3,9,20] Hb (Mn ((x3==0)==false) (c1 (Kl (x3==0)))) (gC h (λh=>Ae q [8] Hb (tS h (WV (Lc (Hu Xo (Le.refl _ _)))))) λh=>Ae q VP Hb (tL q h VP Hb (λu (i4,i5,l6,l7)=>(Cs u [(1,(Ru i4)),(Ds 23 i5)] (Z9 30000 35000 l7 l6 37001 l6.length))) (λu x_=>match x_ with|(.inl (l8,l9))=>aG Γ (.exit 0) (⟨[],(Z9 30000 35000 l9 l8 37001 l8.length),[]⟩:St)|(.inr (l10,l11))=>aG Γ (.goto 0) (⟨[],(Z9 30000 35000 l11 l10 37001 l10.length),[]⟩:St)) (λ⟨i4,i5,l6,l7⟩ y h=>Ae q [0,1,9,21,22,23,24] Hb (gC h (λh=>tV q [0,1,9,11,21,22,23] Hb h λh=>tB h λx13 y13 h=>tC h λc14_ h=>tT q [0,1,9,11,21,22,23,31] Hb [⟨Xo,[],(.bool x13.1),(Z5 x13.2.2 x13.2.1 x13.2.1.length),[],[]⟩] (c1 (Xd y13)) (gC h (λh=>tS h (gO (Bd (Bk [] Hb q)))) λh=>tB h λx15 y15 h=>tC h λc16_ h=>tT q VP Hb [⟨Xo,[],(.tuple []),(Z5 x15.2 x15.1 x15.1.length),[],[]⟩] (c1 (FW y15)) (tW q VP Hb VP Hb (tN h)))) λh=>tS h (gO (Bd (Bk [] Hb q))))) λx17 h=>(match x17,h with | .inl ⟨l8,l9⟩,h=>gA (Ae q [8] Hb (tS h (WV (Lc (Hu Xo (Le.refl _ _)))))) | .inr ⟨l10,l11⟩,h=>nH (λst' hl19=>tS h (mF (Le.trans hl19 Jj)))))))) (λ⟨l1,l2⟩ y h=>Ae q [8] Hb (tS h (WV (Lc (Hu Xo (Le.refl _ _)))))) (Pu (λst' hk=>tS h (gK hk))))
end
end Go.Proofs.YtaeaenoaomdimaaGreat
