/-
  The machine, the program's functions and the laws' arithmetic: part 3 of 5.
-/
import Derived.Test.YtlnbjgmjaioagaaGreatPk2
import Derived.BigCall
import Derived.Lib.RowBridge
import Derived.Shelf.Slices.Clone
import Derived.Shelf.Slices.CompactI
import Derived.Shelf.Slices.In.SortNone
import Derived.Shelf.Sort.Plain
import Derived.Shelf.Spec.SlicesInsertGrow
import Derived.Sort.OwnSortedInts
import Derived.Test.YtlnbjgmjaioagaaGreatProg
set_option linter.unusedSectionVars false
set_option linter.unusedVariables false
set_option linter.unusedSimpArgs false
namespace Go.Proofs.YtlnbjgmjaioagaaGreat
noncomputable section
open Go Go.RowKit
inductive oP where
 | nx (y:Code)
 | bl (id:Nat)
 | ag (c:Code) (n:Nat)
inductive L6 where
 | run (c:Code) (fs:List oP)
 | out (e:Exit) (fs:List oP)
def oM(P:Program)(Γ:G8)(K:Exit->St->Prop):List oP->Exit->St->Prop
 | []=>K
 | .nx y::fs=>sI P Γ y (oM P Γ K fs)
 | .bl id::fs=>HB id (oM P Γ K fs)
 | .ag c n::fs=>λe st=>(e = .normal/\MG P Γ c (oM P Γ K fs) n st)\/(e≠.normal/\oM P Γ K fs e st)
def GG(P:Program)(Γ:G8)(K:Exit->St->Prop):L6->St->Prop
 | .run c fs,st=>Xp P Γ c (oM P Γ K fs) st
 | .out e fs,st=>oM P Γ K fs e st
def Ye:Code->Nat->Nat
 | .exit i,k=>bif Nat.beq i k then 1 else 0
 | .seq a b,k=>Nat.min 2 (Ye a k+Ye b k)
 | .cond _ a b,k=>Nat.min 2 (Ye a k+Ye b k)
 | .loop c,k=>Nat.min 1 (Ye c k)
 | .scope c,k=>Nat.min 1 (Ye c k)
 | .block _ c,k=>Ye c k
 | _,_=>0
def Ro:Code->Nat
 | .region _ _ _=>1
 | .skip=>1
 | .label _=>1
 | .seq a b=>bif Nat.beq (Ro a) 0 then 0 else Ro b
 | .cond _ a b=>Nat.min 2 (Ro a+Ro b)
 | .block i c=>Nat.min 2 (Ro c+Ye c i)
 | .scope c=>Nat.min 2 (Ro c)
 | _=>0
def mD(a:Code):Bool:=match a with | .region _ _ _=>false|a=>Nat.ble 2 (Ro a)
def OW:Nat->Code ⊕ Exit->List oP->L6
 | 0,.inl c,fs=>.run c fs
 | 0,.inr e,fs=>.out e fs
 | n+1,.inl c,fs=>
  match c with
  | .skip=>OW n (.inr .normal) fs
  | .label _=>OW n (.inr .normal) fs
  | .seq a b=>bif mD a then .run (.seq a b) fs else OW n (.inl a) (.nx b::fs)
  | .block id a=>OW n (.inl a) (.bl id::fs)
  | .exit id=>OW n (.inr (.exit id)) fs
  | .goto l=>OW n (.inr (.goto l)) fs
  | .ret=>OW n (.inr .ret) fs
  | c=>.run c fs
 | n+1,.inr e,fs=>
  match fs with
  | []=>.out e []
  | .nx y::fs=>(match e with | .normal=>OW n (.inl y) fs|e=>OW n (.inr e) fs)
  | .bl id::fs=>(match e with | .exit i=>bif Nat.beq i id then OW n (.inr .normal) fs else OW n (.inr (.exit i)) fs|e=>OW n (.inr e) fs)
  | .ag c m::fs=>(match e with | .normal=>(match m with|0=>.out .normal (.ag c 0::fs)|m+1=>OW n (.inl c) (.ag c m::fs))|e=>OW n (.inr e) fs)
section
variable {P:Program} {Γ:G8} {K:Exit->St->Prop}
theorem B1:∀(n:Nat) (x:Code ⊕ Exit) (fs:List oP) (st:St),GG P Γ K (OW n x fs) st->(match x with | .inl c=>Xp P Γ c (oM P Γ K fs) st | .inr e=>oM P Γ K fs e st)
 | 0,.inl c,fs,st,h=>h
 | 0,.inr e,fs,st,h=>h
 | n+1,.inl c,fs,st,h=>by
  cases c with
  | skip=>exact lL (B1 n _ fs st h)
  | label l=>exact ir (B1 n _ fs st h)
  | seq a b=>
   cases hj:mD a with
   | true=>simp only[OW,hj]at h;exact h
   | false=>simp only[OW,hj]at h;exact ft (B1 n (.inl a) _ st h)
  | block id a=>exact iq (B1 n (.inl a) _ st h)
  | exit id=>exact lF (B1 n _ fs st h)
  | goto l=>exact lG (B1 n _ fs st h)
  | ret=>exact pf (B1 n (.inr .ret) fs st h)
  | _=>exact h
 | n+1,.inr e,[],st,h=>h
 | n+1,.inr e,.nx y::fs,st,h=>by
  cases e with
  | normal=>exact B1 n (.inl y) fs st h
  | exit i=>exact B1 n _ fs st h
  | goto l=>exact B1 n _ fs st h
  | ret=>exact B1 n (.inr .ret) fs st h
  | panic c=>exact B1 n _ fs st h
  | outgrown=>exact B1 n _ fs st h
 | n+1,.inr e,.bl id::fs,st,h=>by
  cases e with
  | normal=>exact B1 n _ fs st h
  | exit i=>
   cases hb:Nat.beq i id with
   | true=>
    obtain rfl:=Co hb;simp only[OW,hb]at h;exact dc (B1 n _ fs st h)
   | false=>
    simp only[OW,hb]at h;exact db hb (B1 n _ fs st h)
  | goto l=>exact B1 n _ fs st h
  | ret=>exact B1 n (.inr .ret) fs st h
  | panic c=>exact B1 n _ fs st h
  | outgrown=>exact B1 n _ fs st h
 | n+1,.inr e,.ag c m::fs,st,h=>by
  cases e with
  | normal=>
   cases m with
   | zero=>exact h
   | succ m=>exact .inl ⟨rfl,B1 n (.inl c) _ st h⟩
  | exit i=>exact .inr ⟨(by intro hh;cases hh),B1 n _ fs st h⟩
  | goto l=>exact .inr ⟨(by intro hh;cases hh),B1 n _ fs st h⟩
  | ret=>exact .inr ⟨(by intro hh;cases hh),B1 n (.inr .ret) fs st h⟩
  | panic ch=>exact .inr ⟨(by intro hh;cases hh),B1 n _ fs st h⟩
  | outgrown=>exact .inr ⟨(by intro hh;cases hh),B1 n _ fs st h⟩
theorem Jh{n:Nat}{c:Code}{fs:List oP}{st:St}(h:GG P Γ K (OW n (.inl c) fs) st):Xp P Γ c (oM P Γ K fs) st:=B1 n _ fs st h
theorem Yz{n:Nat}{e:Exit}{fs:List oP}{st:St}(h:GG P Γ K (OW n (.inr e) fs) st):oM P Γ K fs e st:=B1 n _ fs st h
def r8(c:Code)(fs:List oP):L6:=OW 400 (.inl c) fs
def xH(e:Exit)(fs:List oP):L6:=OW 400 (.inr e) fs
def qc:L6->L6
 | .run _ fs=>xH .normal fs
 | x=>x
def ql:L6->Option (List Oper×Bool)
 | .run (.region _ ops draw) _=>some (ops.toList,draw)
 | _=>none
def oL(P:Program)(S:EK)(n:Nat)(cs:List (Nat×AV))(live names:List Nat)(x:L6)(st:St)(rs:List M9):Option (St×List Prop×Bool):=
 match ql x with
 | some (ops,draw)=>MM P S n cs live names ops draw st rs
 | none=>none
def qd(P:Program)(S:EK)(n:Nat)(cs:List (Nat×AV))(live names:List Nat)(x:L6)(st:St)(rs:List M9):St:=
 match oL P S n cs live names x st rs with
 | some r=>r.1
 | none=>st
def oN(r:Option (St×List Prop×Bool)):Option (Prop×Bool):=
 match r with
 | some r=>some (ay r.2.1,r.2.2)
 | none=>none
theorem gR{x:L6}{st:St}{n:Nat}{H:List (Nat×Own)}(q:RgQ P Γ n H)(live names:List Nat)(cs:List (Nat×AV))(rs:List M9){O:Prop}(hO:O)
  (k:GG P Γ K (qc x) (qd P (Spec P) n cs live names x st rs))
  (h:oN (oL P (Spec P) n cs live names x st rs)=some (O,true):=by kernel_rfl) (hh:(H.all λx=>Bp x.1 names)=true:=by kernel_rfl):GG P Γ K x st:=by
 unfold oL at h;unfold qd oL at k
 cases x with
 | out e fs=>simp[ql,oN]at h
 | run c fs=>
  cases c with
  | region id ops draw=>
   simp only[ql]at h k
   cases hr:MM P _ n cs _ _ _ _ st rs with
   | none=>rw[hr]at h;simp[oN]at h
   | some r=>
    obtain⟨st',obs,d⟩:=r;rw[hr]at h k;obtain⟨rfl,rfl⟩:=h;have:=dY (id:=id)  q.hn q.mix (q.hand hh) hr hO (Yz k);exact(by simpa using this:Xp P Γ _ _ st)
  | _=>simp[ql,oN]at h
theorem Ag{x:L6}{st:St}{n:Nat}{H:List (Nat×Own)}(q:RgQ P Γ n H)(live names:List Nat)
  (k:GG P Γ K (qc x) (qd P (Spec P) n [] live names x st []))
  (h:oN (oL P (Spec P) n [] live names x st [])=some (True,true):=by kernel_rfl) (hh:(H.all λx=>Bp x.1 names)=true:=by kernel_rfl):GG P Γ K x st:=gR q _ _ [] [] trivial k h hh
def sA:L6->Bool | .run _ _=>true|_=>false
theorem Ka{x:L6}{st st':St}(h:Le Γ st st')
  (k:GG P Γ K x st')
  (hx:sA x=true:=by kernel_rfl):GG P Γ K x st:=by
 cases x with
 | run c fs=>exact lH h k
 | out e fs=>cases hx
theorem O8{x:L6}{st:St}(st':St)
  (k:GG P Γ K x st')
  (h:st=st':=by kernel_rfl):GG P Γ K x st:=h▸k
def lf(x:L6)(st:St):AV:=match x with | .run (.cond c _ _) _=>bH st.get c|_=>.any
def vm(b:Bool):L6->L6
 | .run (.cond _ c d) fs=>r8 (bif b then c else d) fs
 | x=>x
theorem gC{x:L6}{st:St}{R:Type}{b:Bool}{m1 m2:Option R}{r:R}(h:(bif b then m1 else m2)=some r)
  (kt:m1=some r->GG P Γ K (vm true x) st) (kf:m2=some r->GG P Γ K (vm false x) st)
  (hv:lf x st = .bool b:=by kernel_rfl):GG P Γ K x st:=by
 cases x with
 | out e fs=>cases hv
 | run c fs=>
  cases c with
  | cond c y z=>
   refine aj b hv (λhb=>Jh  (kt ?_)) (λhb=>Jh  (kf ?_))
   ·subst hb;exact h
   ·subst hb;exact h
  | _=>cases hv
theorem BK{x:L6}{st:St}(b:Bool)
  (k:GG P Γ K (vm b x) st)
  (hv:lf x st = .bool b:=by kernel_rfl):GG P Γ K x st:=by
 cases x with
 | out e fs=>cases hv
 | run c fs=>
  cases c with
  | cond c y z=>
   refine aj b hv (λhb=>Jh (n:=400) ?_) (λhb=>Jh (n:=400) ?_)
   ·subst hb;exact k
   ·subst hb;exact k
  | _=>cases hv
theorem tm{x:L6}{st:St}(pos:Bool)(n:Nat)
  (kt:(pos=true->n=0)->GG P Γ K (vm true x) st) (kf:(pos=false->n=0)->GG P Γ K (vm false x) st)
  (hv:lf x st = .nilq pos n:=by kernel_rfl):GG P Γ K x st:=by
 cases x with
 | out e fs=>cases hv
 | run c fs=>
  cases c with
  | cond c y z=>exact lK pos n hv (λhb=>Jh  (kt hb)) (λhb=>Jh  (kf hb))
  | _=>cases hv
theorem gB{R:Type}{c:Bool}{m1 m2:Option R}{r:R}{G:Prop}(h:(bif c then m1 else m2)=some r)(kt:c=true->m1=some r->G)(kf:c=false->m2=some r->G):G:=by
 grind
theorem yi(F:Bool->Prop){c b:Bool}(hs:c=b)(h:F c):F b:=hs▸h
theorem lt1{P:Nat->Prop}(h0:P 0)(i:Nat)(h:i<1):P i:=by
 grind
theorem rk(o:Own):some o=some o:=rfl
theorem B9{k:IntKind}{a b:Int}(h:decide (a=b)=true):AVle (.int k a) (.int k b):=by rw[QY h];exact .refl _
theorem lE{a b:Bool}(h:a=b):AVle (.bool a) (.bool b):=by rw[h];exact .refl _
theorem yk{p:Prop}(h:false=true):p:=Bool.noConfusion h
theorem gK{x:L6}{st:St}{e:Exit}(h:K e st)(hx:x = .out e []:=by kernel_rfl):GG P Γ K x st:=by subst hx;exact h
def aG(Γ:G8)(e0:Exit)(og:St):Exit->St->Prop:=λe st=>e=e0/\Le Γ st og
def aR(K:Exit->St->Prop):Exit->St->Prop:=λe st=>e = .ret/\K e st
theorem B0{e0:Exit}{og st:St}(h:Le Γ st og):aG Γ e0 og e0 st:=⟨rfl,h⟩
theorem Oa{st:St}(h:K .ret st):aR K .ret st:=⟨rfl,h⟩
def yw:Exit->Bool | .normal=>true|_=>false
theorem gN{S X:Type}{x:L6}{st:St}{H:S->St}{KX:X->Exit->St->Prop}{s':S}(h:Le Γ st (H s'))(hx:x = .out .normal []:=by kernel_rfl):GG P Γ (IJ Γ H KX (.next s')) x st:=by
 subst hx;exact⟨rfl,h⟩
theorem gO{S X:Type}{x:L6}{st:St}{H:S->St}{KX:X->Exit->St->Prop}{y:X}{e:Exit}(h:KX y e st)(hx:x = .out e []:=by kernel_rfl)(hn:yw e=false:=by kernel_rfl):GG P Γ (IJ Γ H KX (.done y)) x st:=by
 subst hx;exact⟨(by rintro rfl;cases hn),h⟩
def fK(P:Program)(Γ:G8)(rs:List ResultVar)(H:List (Nat×Own))(res:AV)(H':List (Nat×Own)):Exit->St->Prop:=yg Γ (wM P rs H res H')
theorem Hd{rs:List ResultVar}{H H':List (Nat×Own)}{res:AV}{st st':St}{e:Exit}(ρ:List (Nat×Nat))(hl:Le Γ st st')(hr:gu P rs ρ H st'=some (res,H'):=by kernel_rfl)
  (he:(match e with | .ret=>true | .normal=>true|_=>false)=true:=by kernel_rfl):fK P Γ rs H res H' e st:=by
 refine⟨st',hl,?_,ρ,hr⟩
 cases e with
 | ret=>exact .inl rfl
 | normal=>exact .inr rfl
 | _=>cases he
theorem Bj{rs:List ResultVar}{H H':List (Nat×Own)}{res:AV}{x:L6}{st:St}(ρ:List (Nat×Nat))(hr:gu P rs ρ H st=some (res,H'):=by kernel_rfl)
  (hx:x = .out .ret []:=by kernel_rfl):GG P Γ (fK P Γ rs H res H') x st:=gK  (Hd ρ (Le.refl _ _) hr) hx
def WU(fn:Func):Code:=match fn.body with|some c=>c|none=>.skip
theorem Uz {f : FuncId} {fn : Func} {args : List AV} {H H' : List (Nat × Own)} {res : AV} (hm : P.follows .mixedOrders = true) (hf : P.funcs[f]? = some fn)
    (k : ∀ Γ : G8, RgQ P Γ fn.ntmps H → GG P Γ (fK P Γ fn.results.toList H res H') (r8 (WU fn) []) (HG args H))
    (hb : fn.body.isSome = true := by kernel_rfl) (hname : (fn.name == "runtime.NumGoroutine") = false := by kernel_rfl) (hlen : Nat.ble args.length fn.ntmps = true := by kernel_rfl) (hpl : PI H = true := by kernel_rfl) : Spec P f args H res H' := by
  obtain ⟨c, hc⟩ := zzL67.1 hb
  have e : WU fn = c := by unfold WU; rw [hc]
  refine cT hf hc hname hlen (fun Γ hn hΓ => ?_) hpl; have := k Γ ⟨hn, hm, hΓ⟩; rw [e] at this; exact tO (Jh this)
theorem mI{st st':St}(h:st=st'):Le Γ st st':=h▸Le.refl Γ st
def dt:L6->Bool | .run (.loop _) _=>true|_=>false
def ru:L6->L6
 | .run (.loop c) _=>r8 c []
 | x=>x
def uI(e:Exit):L6->L6
 | .run _ fs=>xH e fs
 | x=>x
def wJ{α:Type}(k:Nat)(x:α):List (Nat×α)->List (Nat×α)
 | []=>[(k,x)]
 | (k',y)::l=>bif Nat.beq k k' then(k,x)::l else bif Nat.blt k k' then(k,x)::(k',y)::l else(k',y)::wJ k x l
def qp{α:Type}:List (Nat×α)->List (Nat×α)->List (Nat×α)
 | [],l=>l
 | (k,x)::r,l=>qp r (wJ k x l)
def Dv(st:St)(ts:List (Nat×AV))(os:List (Nat×Own))(fs:List (Nat×j4):=[]):St:=⟨qp ts st.tmps,qp os st.own,qp fs st.fam⟩
def V4(live names:List Nat)(st:St)(ts:List (Nat×AV))(os:List (Nat×Own))(fs:List (Nat×j4):=[]):St:=Fe live names (Dv st ts os fs)
theorem gL{S X:Type}{x:L6}{st:St}{n:Nat}{Hf:List (Nat×Own)}(q:RgQ P Γ n Hf){f:S->Option (LR S X)}{s0:S}{y:X}(hx:Af f s0=some y)(live names:List Nat)(H:St->S->St)(KX:St->X->Exit->St->Prop)
  (kb:∀ s y,f s=some y->GG P Γ (IJ Γ (H (Fe live names st)) (KX (Fe live names st)) y) (ru x) (H (Fe live names st) s)) (ko:∀ e st',KX (Fe live names st) y e st'->GG P Γ K (uI e x) st')
  (h0:Fe live names st=H (Fe live names st) s0:=by kernel_rfl) (hl:dt x=true:=by kernel_rfl) (hh:(Hf.all λx=>Bp x.1 names)=true:=by kernel_rfl):GG P Γ K x st:=by
 cases x with
 | out e fs=>cases hl
 | run c fs=>
  cases c with
  | loop c=>
   refine lH  ?_ (lI _ f _ (λs y hy=>Jh (kb s y hy)) hx λe st' hk=>Yz (ko e st' hk));rw[<- h0];exact Bs _ _ q rfl hh
  | _=>cases hl
theorem gA{x:L6}{f:Exit->L6->L6}{e0:Exit}{og:St}
  (k:GG P Γ K (f e0 x) og)
  (hr:sA (f e0 x)=true:=by kernel_rfl):∀ e st',aG Γ e0 og e st'->GG P Γ K (f e x) st':=by
 rintro e st' ⟨rfl,hl⟩;exact Ka hl k hr
theorem bL{x:L6}{f:Exit->L6->L6}{e0:Exit}{og:St}(k:∀ st',Le Γ st' og->GG P Γ K (f e0 x) st'):∀ e st',aG Γ e0 og e st'->GG P Γ K (f e x) st':=by
 rintro e st' ⟨rfl,hl⟩;exact k st' hl
theorem gAr{x:L6}{f:Exit->L6->L6}{K':Exit->St->Prop}(k:∀ st',K' .ret st'->GG P Γ K (f .ret x) st'):∀ e st',aR K' e st'->GG P Γ K (f e x) st':=by
 rintro e st' ⟨rfl,hl⟩;exact k st' hl
theorem gU{x:L6}{st:St}(n:Nat)
  (k:GG P Γ K (match x with | .run (.loop c) fs=>r8 c (.ag c n::fs)|x=>x) st)
  (hl:dt x=true:=by kernel_rfl):GG P Γ K x st:=by
 cases x with
 | out e fs=>cases hl
 | run c fs=>
  cases c with
  | loop c=>exact dZ (n+1) (Jh k)
  | _=>cases hl
def wB:L6->Bool | .run (.seq _ _) _=>true|_=>false
def vu:L6->L6
 | .run (.seq a _) _=>r8 a []
 | x=>x
def wL(e:Exit):L6->L6
 | .run (.seq _ b) fs=>xH e (.nx b::fs)
 | x=>x
theorem gJ{X:Type}{x:L6}{st:St}{m:Option X}{y:X}(hx:m=some y)(KX:X->Exit->St->Prop)
  (kb:∀ y,m=some y->GG P Γ (KX y) (vu x) st) (ko:∀ e st',KX y e st'->GG P Γ K (wL e x) st')
  (hs:wB x=true:=by kernel_rfl):GG P Γ K x st:=by
 cases x with
 | out e fs=>cases hs
 | run c fs=>
  cases c with
  | seq a b=>exact ft (ak KX hx (λy hy=>Jh (kb y hy)) λe st' hk=>Yz (ko e st' hk))
  | _=>cases hs
def wA:L6->Bool | .run (.region _ _ _) _=>true|_=>false
def tJ:L6->L6
 | .run c _=>.run c []
 | x=>x
def vl(e:Exit):L6->L6
 | .run _ fs=>xH e fs
 | x=>x
theorem yv{X:Type}{x:L6}{st:St}{m:Option X}{y:X}(hx:m=some y)(KX:X->Exit->St->Prop)
  (kb:∀ y,m=some y->GG P Γ (KX y) (tJ x) st) (ko:∀ e st',KX y e st'->GG P Γ K (vl e x) st')
  (hs:wA x=true:=by kernel_rfl):GG P Γ K x st:=by
 cases x with
 | out e fs=>cases hs
 | run c fs=>exact ak KX hx (λy hy=>kb y hy) λe st' hk=>Yz (ko e st' hk)
def qJ:L6->Bool | .run (.scope _) _=>true|_=>false
def wP:L6->Code | .run (.scope c) _=>c|_=>.skip
def wC(c:Code)(l:Nat):L6:=r8 ((findLabel c l).getD .skip) []
theorem gS{S X:Type}{x:L6}{st:St}{f0:Option (LR S X)}{f:S->Option (LR S X)}{y:X}(hx:Ms f0 f=some y)(lab:S->Nat)(H:S->St)(KX:X->Exit->St->Prop)
  (k0:∀ y,f0=some y->GG P Γ (OE Γ (wP x) lab H KX y) (r8 (wP x) []) st) (kb:∀ s y,f s=some y->GG P Γ (OE Γ (wP x) lab H KX y) (wC (wP x) (lab s)) (H s)) (ko:∀ e st',KX y e st'->GG P Γ K (uI e x) st')
  (hs:qJ x=true:=by kernel_rfl):GG P Γ K x st:=by
 cases x with
 | out e fs=>cases hs
 | run c fs=>
  cases c with
  | scope c=>
   refine iu lab H f0 f KX (λy hy=>Jh (k0 y hy)) (λs y rest hf hy=>?_) hx λe st' hk=>Yz (ko e st' hk);have:=kb s y hy;unfold wC wP at this;rw[hf]at this;exact Jh this
  | _=>cases hs
theorem dk{S X:Type}{x:L6}{st:St}{c:Code}{lab:S->Nat}{H:S->St}{KX:X->Exit->St->Prop}{s':S}(h:Le Γ st (H s'))(hx:x = .out (.goto (lab s')) []:=by kernel_rfl)(hf:(findLabel c (lab s')).isSome=true:=by kernel_rfl) :
  GG P Γ (OE Γ c lab H KX (.next s')) x st:=by
 subst hx;exact⟨rfl,hf,h⟩
theorem JT{S X:Type}{x:L6}{st:St}{c:Code}{lab:S->Nat}{H:S->St}{KX:X->Exit->St->Prop}{y:X}{e:Exit}(h:KX y e st)(hx:x = .out e []:=by kernel_rfl)
  (hf:(match e with | .goto l=>(findLabel c l).isNone|_=>true)=true:=by kernel_rfl):GG P Γ (OE Γ c lab H KX (.done y)) x st:=by
 subst hx;refine⟨?_,h⟩;rintro l rfl
 simpa using hf
theorem Pb{α:Type}{st:St}(U:α->St->St){a b:α}(h:a=b)(h1:st=U a st:=by kernel_rfl):Le Γ st (U b st):=by subst h;exact mI h1
theorem yE{st:St}(F F':Bool->St->St)(g:Bool)(h1:st=F g st:=by kernel_rfl)(ht:F true st=F' true st:=by kernel_rfl)(hf:F false st=F' false st:=by kernel_rfl):Le Γ st (F' g st):=by
 refine mI (h1.trans ?_)
 cases g<;>assumption
def Own.withF(g:Nat->List AV):Own->Own
 | .arr sz e n _=>.arr sz e n g
 | o=>o
def rp(st:St)(nm:Nat):Option (Nat×(Nat->List AV)):=match Ae st.own nm with|some (.arr _ _ n f)=>some (n,f)|_=>none
def wR(nm:Nat)(g:Nat->List AV)(st:St):St:=⟨st.tmps,(match Ae st.own nm with|some o=>Do st.own nm (o.withF g)|none=>st.own),st.fam⟩
theorem PF{nm sz n:Nat}{e:TypeId}{f g:Nat->List AV}(hp:∀ k,k<n->AVleL (f k) (g k)):∀{l:List (Nat×Own)},Ae l nm=some (.arr sz e n f)->OwnsLe l (Do l nm (.arr sz e n g))
 | [],h=>by cases h
 | (k,o)::l,h=>by
  simp only[Ae]at h;simp only[Do]
  cases hb:Nat.beq k nm with
  | true=>
   obtain rfl:=Co hb;rw[hb]at h;simp only[Aj,Ak]at h;subst h;exact .arr hp (.refl _)
  | false=>
   rw[hb]at h;exact .same (PF hp h)
theorem Pa{st:St}(nm:Nat){n:Nat}{f g:Nat->List AV}(hp:∀ k,k<n->AVleL (f k) (g k))(h:rp st nm=some (n,f):=by kernel_rfl):Le Γ st (wR nm g st):=by
 unfold rp at h;unfold wR
 cases ho:Ae _ nm with
 | none=>rw[ho]at h;cases h
 | some o=>
  rw[ho]at h
  cases o with
  | arr sz e n' f'=>
   obtain⟨rfl,rfl⟩:=h;exact Ng (TmpsLe.refl _) (PF hp ho)
  | _=>cases h
def lb(st:St)(nm j:Nat):Option AV:=match Ae st.own nm with|some (.row _ cells)=>cells[j]? | _=>none
def Own.withC(j:Nat)(x:AV):Own->Own
 | .row e cells=>.row e (cells.set j x)
 | o=>o
def wQ(nm j:Nat)(x:AV)(st:St):St:=⟨st.tmps,(match Ae st.own nm with|some o=>Do st.own nm (o.withC j x)|none=>st.own),st.fam⟩
theorem gX{a b:AV}(h:AVle a b):∀{l:List AV} {j:Nat},l[j]?=some a->AVleL l (l.set j b)
 | [],j,h=>by simp at h
 | x::l,0,h'=>by
  simp only[List.getElem?_cons_zero,Ak]at h';subst h';exact .cons h (.refl _)
 | x::l,j+1,h'=>by
  exact .cons (.refl _) (gX h h')
theorem PG{nm:Nat}{e:TypeId}{x y:List AV}(hp:AVleL x y):∀{l:List (Nat×Own)},Ae l nm=some (.row e x)->OwnsLe l (Do l nm (.row e y))
 | [],h=>by cases h
 | (k,o)::l,h=>by
  simp only[Ae]at h;simp only[Do]
  cases hb:Nat.beq k nm with
  | true=>
   obtain rfl:=Co hb;rw[hb]at h;simp only[Aj,Ak]at h;subst h;exact .row hp (.refl _)
  | false=>
   rw[hb]at h;exact .same (PG hp h)
theorem qL{st:St}(nm j:Nat){a b:AV}(hp:AVle a b)(h:lb st nm j=some a:=by kernel_rfl):Le Γ st (wQ nm j b st):=by
 unfold lb at h;unfold wQ
 cases ho:Ae _ nm with
 | none=>rw[ho]at h;cases h
 | some o=>
  rw[ho]at h
  cases o with
  | row e cells=>exact Ng (TmpsLe.refl _) (PG (gX hp h) ho)
  | _=>cases h
theorem gI(g:Bool):g=true->g=true:=id
theorem O9(c:Bool):c=true->(c==true)=true:=gT
theorem Pv(c:Bool):c=false->(c==false)=true:=gF
theorem A0{α:Type}(sz:Nat)(e:α->List AV)(d:α)(l:List α):AVle (.slice sz l.length (λi=>(l.map e).getD i []) .exact) (AV.list sz e d l .exact):=WT rfl λi h=>qS l i h
theorem Be{α:Type}(sz:Nat)(e:α->List AV)(d:α):AVle (.slice 0 0 (λ_=>[]) .exact) (AV.list sz e d [] .exact):=C6
theorem Jr{α:Type}(sz nm:Nat)(e:α->List AV)(d:α)(l m:List α):AVle (.slice sz (l.length+m.length) (K2 l.length (λi=>e (l.getD i d)) (λi=>e (m.getD i d))) (.own nm)) (AV.list sz e d (l++m) (.own nm)):=tM
theorem Kb{st st':St}(h:st=st':=by kernel_rfl):Le Γ st st':=h▸Le.refl Γ st
theorem ci{p q:Prop}(a:p)(b:q):p/\q:=⟨a,b⟩
theorem c1{p:Prop}(a:p):p/\True:=⟨a,trivial⟩
end
section
variable {P:Program} {Γ:G8} {K:Exit->St->Prop}
theorem tB{α β:Type}{m:Option α}{f:α->Option β}{r:β}{G:Prop}(h:m.bind f=some r)(k:∀ x,m=some x->f x=some r->G):G:=have⟨x,hx,h⟩:=bind_some h;k x hx h
theorem tC{β:Type}{c:Prop}[Decidable c]{m:Option β}{r:β}{G:Prop}(h:Az c m=some r)(k:c->m=some r->G):G:=k (J7 h).1 (J7 h).2
@[elab_as_elim] theorem tS{α:Type}{a:α}{M:α->Prop}{b:α}(h:some a=some b)(k:M a):M b:=OI h▸k
theorem tV{x:L6}{st:St}{n:Nat}{H:List (Nat×Own)}(q:RgQ P Γ n H)(live names:List Nat){β:Type}{c:Prop}[Decidable c]{m:Option β}{r:β}(h:Az c m=some r)
  (k:m=some r->GG P Γ K (qc x) (qd P (Spec P) n [] live names x st []))
  (h1:oN (oL P (Spec P) n [] live names x st [])=some (c/\True,true):=by kernel_rfl) (hh:(H.all λx=>Bp x.1 names)=true:=by kernel_rfl):GG P Γ K x st:=gR q live names [] [] (c1 (J7 h).1) (k (J7 h).2) h1 hh
theorem tN{S X:Type}{x:L6}{st:St}{H:S->St}{KX:X->Exit->St->Prop}{s':S}{y:LR S X}(h:some (.next s')=some y)(h1:st=H s':=by kernel_rfl)(hx:x = .out .normal []:=by kernel_rfl):GG P Γ (IJ Γ H KX y) x st:=OI h▸gN (Kb h1) hx
theorem tL{S X α:Type}{x:L6}{st:St}{n:Nat}{Hf:List (Nat×Own)}(q:RgQ P Γ n Hf){f:S->Option (LR S X)}{s0:S}{g:X->Option α}{r:α}(h:(Af f s0).bind g=some r)(live names:List Nat)(H:St->S->St)(KX:St->X->Exit->St->Prop)
  (kb:∀ s y,f s=some y->GG P Γ (IJ Γ (H (Fe live names st)) (KX (Fe live names st)) y) (ru x) (H (Fe live names st) s)) (ko:∀ y,g y=some r->∀ e st',KX (Fe live names st) y e st'->GG P Γ K (uI e x) st')
  (h0:Fe live names st=H (Fe live names st) s0:=by kernel_rfl) (hl:dt x=true:=by kernel_rfl) (hh:(Hf.all λx=>Bp x.1 names)=true:=by kernel_rfl):GG P Γ K x st:=tB h λy hy h=>gL q hy live names H KX kb (ko y h) h0 hl hh
theorem tU{x:L6}{st:St}{n:Nat}{H:List (Nat×Own)}(q:RgQ P Γ n H)(live names:List Nat){O:Prop}(hO:O)
  (k:GG P Γ K (qc x) (qd P (Spec P) n [] live names x st []))
  (h:oN (oL P (Spec P) n [] live names x st [])=some (O,true):=by kernel_rfl) (hh:(H.all λx=>Bp x.1 names)=true:=by kernel_rfl):GG P Γ K x st:=gR q live names [] [] hO k h hh
theorem tT{x:L6}{st:St}{n:Nat}{H:List (Nat×Own)}(q:RgQ P Γ n H)(live names:List Nat)(rs:List M9){O:Prop}(hO:O)
  (k:GG P Γ K (qc x) (qd P (Spec P) n [] live names x st rs))
  (h:oN (oL P (Spec P) n [] live names x st rs)=some (O,true):=by kernel_rfl) (hh:(H.all λx=>Bp x.1 names)=true:=by kernel_rfl):GG P Γ K x st:=gR q live names [] rs hO k h hh
theorem tW{x:L6}{st:St}{n:Nat}{H:List (Nat×Own)}(q:RgQ P Γ n H)(live names live2 names2:List Nat)
  (k:GG P Γ K (qc (qc x)) (qd P (Spec P) n [] live2 names2 (qc x) (qd P (Spec P) n [] live names x st []) []))
  (h:oN (oL P (Spec P) n [] live names x st [])=some (True,true):=by kernel_rfl) (hh:(H.all λx=>Bp x.1 names)=true:=by kernel_rfl)
  (h2:oN (oL P (Spec P) n [] live2 names2 (qc x) (qd P (Spec P) n [] live names x st []) [])=some (True,true):=by kernel_rfl) (hh2:(H.all λx=>Bp x.1 names2)=true:=by kernel_rfl):GG P Γ K x st:=Ag q live names (Ag q live2 names2 k h2 hh2) h hh
end
def xz:List Own->Prop->Prop
 | [],p=>p
 | o::l,p=>some o=some o/\xz l p
theorem gw:∀(l:List Own) {p:Prop},p->xz l p
 | [],_,h=>h
 | _::l,_,h=>⟨rfl,gw l h⟩
theorem Qe(l:List Own):xz l True:=gw l trivial
theorem Qy{R:Prop}(g:Bool)(r:R):(g=true->g=true)/\((g=true->g=true)/\(R)):=⟨id,⟨id,r⟩⟩
theorem dj{R:Prop}(g:Bool)(r:R):(g=true->g=true)/\((g=true->g=true)/\((g=true->g=true)/\(R))):=⟨id,⟨id,⟨id,r⟩⟩⟩
theorem tk{R:Prop}(g:Bool)(r:R):(g=true->g=true)/\((g=true->g=true)/\((g=true->g=true)/\((g=true->g=true)/\(R)))):=⟨id,⟨id,⟨id,⟨id,r⟩⟩⟩⟩
theorem uh{R:Prop}(g:Bool)(r:R):(g=true->g=true)/\((g=true->g=true)/\((g=true->g=true)/\((g=true->g=true)/\((g=true->g=true)/\(R))))):=⟨id,⟨id,⟨id,⟨id,⟨id,r⟩⟩⟩⟩⟩
theorem yj{R:Prop}(g:Bool)(r:R):(g=true->g=true)/\((g=true->g=true)/\((g=true->g=true)/\((g=true->g=true)/\((g=true->g=true)/\((g=true->g=true)/\(R)))))):=⟨id,⟨id,⟨id,⟨id,⟨id,⟨id,r⟩⟩⟩⟩⟩⟩
theorem yq{R:Prop}(g:Bool)(r:R):(g=true->g=true)/\((g=true->g=true)/\((g=true->g=true)/\((g=true->g=true)/\((g=true->g=true)/\((g=true->g=true)/\((g=true->g=true)/\(R))))))):=⟨id,⟨id,⟨id,⟨id,⟨id,⟨id,⟨id,r⟩⟩⟩⟩⟩⟩⟩
theorem yr{R:Prop}(g:Bool)(r:R):(g=true->g=true)/\((g=true->g=true)/\((g=true->g=true)/\((g=true->g=true)/\((g=true->g=true)/\((g=true->g=true)/\((g=true->g=true)/\((g=true->g=true)/\(R)))))))):=⟨id,⟨id,⟨id,⟨id,⟨id,⟨id,⟨id,⟨id,r⟩⟩⟩⟩⟩⟩⟩⟩
theorem yu{R:Prop}(g:Bool)(r:R):(g=true->g=true)/\((g=true->g=true)/\((g=true->g=true)/\((g=true->g=true)/\((g=true->g=true)/\((g=true->g=true)/\((g=true->g=true)/\((g=true->g=true)/\((g=true->g=true)/\(R))))))))):=⟨id,⟨id,⟨id,⟨id,⟨id,⟨id,⟨id,⟨id,⟨id,r⟩⟩⟩⟩⟩⟩⟩⟩⟩
theorem NT{p0 p1 R:Prop}(a0:p0)(a1:p1)(r:R):p0/\p1/\R:=⟨a0,a1,r⟩
theorem c2{p0 p1:Prop}(a0:p0)(a1:p1):p0/\p1/\True:=⟨a0,a1,trivial⟩
theorem yh{p0 p1 p2 R:Prop}(a0:p0)(a1:p1)(a2:p2)(r:R):p0/\p1/\p2/\R:=⟨a0,a1,a2,r⟩
theorem c3{p0 p1 p2:Prop}(a0:p0)(a1:p1)(a2:p2):p0/\p1/\p2/\True:=⟨a0,a1,a2,trivial⟩
theorem SG{p0 p1 p2 p3 R:Prop}(a0:p0)(a1:p1)(a2:p2)(a3:p3)(r:R):p0/\p1/\p2/\p3/\R:=⟨a0,a1,a2,a3,r⟩
theorem c4{p0 p1 p2 p3:Prop}(a0:p0)(a1:p1)(a2:p2)(a3:p3):p0/\p1/\p2/\p3/\True:=⟨a0,a1,a2,a3,trivial⟩
theorem yA{p0 p1 p2 p3 p4 R:Prop}(a0:p0)(a1:p1)(a2:p2)(a3:p3)(a4:p4)(r:R):p0/\p1/\p2/\p3/\p4/\R:=⟨a0,a1,a2,a3,a4,r⟩
theorem c5{p0 p1 p2 p3 p4:Prop}(a0:p0)(a1:p1)(a2:p2)(a3:p3)(a4:p4):p0/\p1/\p2/\p3/\p4/\True:=⟨a0,a1,a2,a3,a4,trivial⟩
theorem c6{p0 p1 p2 p3 p4 p5:Prop}(a0:p0)(a1:p1)(a2:p2)(a3:p3)(a4:p4)(a5:p5):p0/\p1/\p2/\p3/\p4/\p5/\True:=⟨a0,a1,a2,a3,a4,a5,trivial⟩
theorem c7{p0 p1 p2 p3 p4 p5 p6:Prop}(a0:p0)(a1:p1)(a2:p2)(a3:p3)(a4:p4)(a5:p5)(a6:p6):p0/\p1/\p2/\p3/\p4/\p5/\p6/\True:=⟨a0,a1,a2,a3,a4,a5,a6,trivial⟩
theorem c8{p0 p1 p2 p3 p4 p5 p6 p7:Prop}(a0:p0)(a1:p1)(a2:p2)(a3:p3)(a4:p4)(a5:p5)(a6:p6)(a7:p7):p0/\p1/\p2/\p3/\p4/\p5/\p6/\p7/\True:=⟨a0,a1,a2,a3,a4,a5,a6,a7,trivial⟩
theorem yB{p0 p1 p2 p3 p4 p5 p6 p7 p8 R:Prop}(a0:p0)(a1:p1)(a2:p2)(a3:p3)(a4:p4)(a5:p5)(a6:p6)(a7:p7)(a8:p8)(r:R):p0/\p1/\p2/\p3/\p4/\p5/\p6/\p7/\p8/\R:=⟨a0,a1,a2,a3,a4,a5,a6,a7,a8,r⟩
theorem c9{p0 p1 p2 p3 p4 p5 p6 p7 p8:Prop}(a0:p0)(a1:p1)(a2:p2)(a3:p3)(a4:p4)(a5:p5)(a6:p6)(a7:p7)(a8:p8):p0/\p1/\p2/\p3/\p4/\p5/\p6/\p7/\p8/\True:=⟨a0,a1,a2,a3,a4,a5,a6,a7,a8,trivial⟩
open Go.Shelf
def insRen:Go.Shelf.Ren:=⟨fun|21=>168|27=>200|28=>201|35=>229|39=>176|n=>n,fun|22=>22|n=>n,fun|n=>n⟩
theorem FF:Go.Proofs.Lays2.n21 Tryz.prog insRen:={
 mixed:=by kernel_rfl
 f21:=Tryz.func168.trans (Bn _ (by kernel_rfl))
 f27:=Tryz.func200.trans (Bn _ (by kernel_rfl))
 f28:=Tryz.func201.trans (Bn _ (by kernel_rfl))
 f35:=Tryz.func229.trans (Bn _ (by kernel_rfl))
 f39:=Tryz.func176.trans (Bn _ (by kernel_rfl))
 t0:=Tryz.underlying0
 a0:=Tryz.isAgg0
 z0:=Tryz.sizeOf0
 v0:=Tryz.zeroValue0
 t3:=Tryz.underlying3
 a3:=Tryz.isAgg3
 z3:=Tryz.sizeOf3
 v3:=Tryz.zeroValue3
 t4:=Tryz.underlying4
 a4:=Tryz.isAgg4
 z4:=Tryz.sizeOf4
 v4:=Tryz.zeroValue4
 t22:=Tryz.underlying22
 a22:=Tryz.isAgg22
 z22:=Tryz.sizeOf22
 v22:=Tryz.zeroValue22
 i3:=by kernel_rfl }
def RX(w:World)(g c:Nat):Prop:=∃ cur,w.heap[g]?=some (.cells cur 3 (0,0))/\cur.size=c
structure Lk(w w':World)(g:Nat):Prop where
 os:w'.os=w.os
 tape:w'.tape=w.tape
 output:w'.output=w.output
 drawn:w.drawn<=w'.drawn
 size:w.heap.size<=w'.heap.size
 other:∀ b,b<w.heap.size->b≠g->w'.heap[b]?=w.heap[b]?
 blk:∀ c,RX w g c->RX w' g c
theorem Lk.refl(w:World)(g:Nat):Lk w w g:=⟨rfl,rfl,rfl,zzL5 _,zzL5 _,λ_ _ _=>rfl,λ_ h=>h⟩
theorem Lk.trans{w w' w'':World}{g:Nat}(h:Lk w w' g)(k:Lk w' w'' g):Lk w w'' g:=
 ⟨k.os.trans h.os,k.tape.trans h.tape,k.output.trans h.output,N4 h.drawn k.drawn,N4 h.size k.size,λb hb hn=>(k.other b (Nat.lt_of_lt_of_le hb h.size) hn).trans (h.other b hb hn),λc hc=>k.blk c (h.blk c hc)⟩
theorem AX(w:World)(g:Nat):Lk w w.drew g:=⟨rfl,rfl,rfl,Nat.le_succ _,zzL5 _,λ_ _ _=>rfl,λ_ h=>h⟩
theorem qN(w:World)(g o:Nat)(v:Value):Lk w (w.setCell ⟨g,o,none⟩ v) g:=
 ⟨rfl,rfl,rfl,zzL5 _,by simp[World.setCell],λb _ hn=>Below.heap_setCell w _ v b hn,λc ⟨cur,h1,h2⟩=>⟨_,heap_setCell_same w g o cur 3 v h1,by simpa using h2⟩⟩
theorem Uc(g:Nat):∀(vs:List Value) (o:Nat) (w:World),Lk w (w.setCells g o vs) g
 | [],_,w=>.refl w g
 | v::r,o,w=>(qN w g o v).trans (Uc g r _ _)
theorem OP{w:World}{ob:Obj}{g:Nat}(hg:w.heap.size<=g):Lk w (w.alloc ob) g:=
 ⟨rfl,rfl,rfl,zzL5 _,by  simp,λb hb _=>by show(w.heap.push ob)[b]?=_;rw[Array.getElem?_push,if_neg (Nat.ne_of_lt hb)],λc ⟨cur,h1,_⟩=>by
  grind⟩
theorem HA{w:World}(cs:Array Value):RX (w.alloc (.cells cs 3)) w.heap.size cs.size:=⟨cs,Zx w _,rfl⟩
theorem WS(vs:List Value)(Z:Array Value){j:Nat}(h:j<vs.length):(vs.toArray++Z)[j]?=vs[j]?:=by
 grind
theorem Ql(l:List Int){j:Nat}(h:j<l.length):(l.map (Value.int .i64))[j]?=some (.int .i64 (l.getD j 0)):=by simp[ h]
theorem NO{w:World}{g c j:Nat}(h:RX w g c)(hj:j<c):(w.cell? ⟨g,j,none⟩).isSome=true:=by
 obtain⟨cur,h1,h2⟩:=h;rw[K1 _ _ _ cur 3 _ h1,Array.getElem?_eq_getElem (by omega)];rfl
theorem MO{w:World}{g c:Nat}(h:RX w g c)(j:Nat):w.frozen? ⟨g,j,none⟩=false:=by
 obtain⟨cur,h1,h2⟩:=h;simp[World.frozen?,h1]
theorem Yd{w:World}{g c o:Nat}{vs:List Value}(hB:RX w g c)(ho:o+vs.length<=c)(j:Nat) :
  (w.setCells g o vs).cell? ⟨g,j,none⟩=if o<=j/\j<o+vs.length then vs[j-o]? else w.cell? ⟨g,j,none⟩:=by
 split
 ·obtain⟨i,rfl⟩:∃ i,j=o+i:=⟨j-o,by omega⟩;rw[World.cell?_setCells_in g vs o w (λi hi=>NO hB (by omega)) i _,Nat.add_sub_cancel_left,CJ (by omega)]
 ·exact World.cell?_setCells_out g vs o w _ (λ_ _=>by grind)
def Zs(l:List Int)(i:Int)(v:List Int):Option (List Int×List Int×List Int):=
 Az (0<=i/\i<=l.length/\0<v.length/\l.length+v.length<=room) (some (l.take i.toNat++v++l.drop i.toNat,l.take i.toNat++v++l.drop i.toNat,v))
theorem f5{l:List Int}{j:Nat}{u:Value}(h:(l.map (Value.int .i64))[j]?=some u):j<l.length/\u = .int .i64 (l.getD j 0):=by
 grind
theorem cA(l:List Int):∀ v∈l.map (Value.int .i64),v.oneCell'=true:=by
 intro v hv;obtain⟨x,_,rfl⟩:=zzL20.1 hv
 rfl
section
variable {I:Nat->Nat->Prop} {own:Nat->Option Own} {θ:Nat->Option (Nat×Nat)} {w w':World}
theorem rowI_at(hrel:Hh I own θ w){nm n:Nat}{f:Nat->List AV}{v:Value}{l:List Int}(hl:l.length=n)(ho:own nm=some (.arr 1 3 n f))(hf:∀ k,k<n->f k=[.int .i64 (l.getD k 0)])(h:Rep I own θ w v (.vsl nm n)) :
  (θ nm=none/\l=[]/\∃ a,v = .slice a 0 0)\/∃ g c,θ nm=some (g,c)/\v = .slice (some ⟨g,0,none⟩) n c/\n<=c/\c<=maxLen/\RX w g c/\(∀ j,j<n->w.cell? ⟨g,j,none⟩=some (.int .i64 (l.getD j 0)))/\∀ j,¬ I g j:=by
 obtain⟨sz,e2,m,f2,ad,cap,rfl,ho2,hm,hcap,hmax,hn,hv⟩:=h.vsl_inv;rw[ho]at ho2;obtain⟨rfl,rfl,rfl,rfl⟩:=ho2;have hv:=hv rfl;obtain⟨k1,k2⟩:=hrel.arr nm _ _ _ _ ho
 cases hθ:θ nm with
 | none=>
  grind
 | some gc=>
  obtain⟨g,c⟩:=gc;rw[hθ]at hv;obtain⟨rfl,rfl⟩:=hv;obtain⟨cur,q1,q2,q3,q4,q5,q6,q7⟩:=k2 g cap hθ;rw[S6]at q4;refine .inr ⟨g,cap,rfl,rfl,q2,q3,⟨cur,q1,q4⟩,λj hj=>?_,q7⟩;obtain⟨_,q⟩:=q6 j 0 hj (by omega);rw[hf j hj,S6,N6]at q;have q:=Rep.int_inv q;rw[K1 _ _ _ cur 3 _ q1,<- q];simp only[Ok];rw[Array.getElem?_eq_getElem (by omega)]
  rfl
theorem dq(hrel:Hh I own θ w)(hval:∀ b o,I b o->∃ u,w.cell? ⟨b,o,none⟩=some u){nm n:Nat}{f:Nat->List AV}(ho:own nm=some (.arr 1 3 n f)){r:List Int}(hn:n<r.length){g c:Nat}(hc:r.length<=c)(hm:c<=maxLen)
  (hlk:Lk w w' g) (hblk:RX w' g c) (hcell:∀ j,j<r.length->w'.cell? ⟨g,j,none⟩=some (.int .i64 (r.getD j 0))) (hI:∀ j,¬ I g j) (hg:w.heap.size<=g\/∃ c',θ nm=some (g,c')) :
  ∃ v θ',Value.slice (some ⟨g,0,none⟩) r.length c=v/\Chg own θ I w (Au own nm (.arr 1 3 r.length (λi=>[.int .i64 (r.getD i 0)]))) θ' I w'/\Rep I (Au own nm (.arr 1 3 r.length (λi=>[.int .i64 (r.getD i 0)]))) θ' w' v (.vsl nm r.length):=by
 have hoth:∀ b o,I b o->w'.cell? _=w.cell? ⟨b,o,none⟩:=λb o hi=>by
  obtain⟨u,hu⟩:=hval b o hi;exact GM  (hlk.other b (L7 hu) (λe=>hI o (e▸hi)))
 have hk:=I4     (f':=λi=>[.int _ (r.getD i 0)]) (t':=some _)  hrel hval hoth (.inr ⟨n,f,ho,Nat.le_of_lt hn,λh=>by omega⟩)
  (λb hb hne=>hlk.other b hb (λe=>by
   grind)) hlk.os hlk.tape hlk.output hlk.size (λhh=>by cases hh)
  (λg' c' hh=>by
   obtain⟨rfl,rfl⟩:=Prod.mk.inj (OI hh);obtain⟨cur,h1,h2⟩:=hblk;refine⟨cur,h1,hc,hm,by rw[h2,S6],λ_ _=>rfl,λi j hi hj=>?_,hI⟩
   obtain rfl:j=0:=by omega
   have:=hcell i hi;rw[K1 _ _ _ cur 3 _ h1]at this;rw[S6,N6,Ok,this]
   exact⟨rfl,λ_=>.val _ _ (.int _ _)⟩)
  (λg' c' hh=>by
   grind) hlk.drawn
 exact⟨_,_,rfl,hk,.vsl nm 1 3 _ (λi=>[.int .i64 (r.getD i 0)]) _ _ c (by simp only[Au,Jm]) (zzL5 _) hc hm (λhh=>by cases hh) (λ_=>by simp[thUp])⟩
end
set_option maxHeartbeats 1000000 in
theorem QJ(l:List Int)(i:Int)(v:List Int)(r:List Int×List Int×List Int)(h:Zs l i v=some r)(f:Nat->List AV)(hf:∀ k,k<v.length->f k=[.int .i64 (v.getD k 0)]) :
  Spec Tryz.prog 168 [.vsl 34000 l.length,.int .i64 i,.vsl 34002 v.length] [(34000,.arr 1 3 l.length (λi=>[.int .i64 (l.getD i 0)])),(34002,.arr 1 3 v.length f)] (.vsl 34000 r.2.1.length)
   [(34000,.arr 1 3 r.2.1.length (λi=>[.int .i64 (r.2.1.getD i 0)])),(34002,.arr 1 3 r.2.2.length (λi=>[.int .i64 (r.2.2.getD i 0)]))]:=by
 obtain⟨⟨hi0,hin,hm,hroom⟩,h⟩:=J7 h;obtain rfl:=OI h;unfold room at hroom;obtain⟨k,rfl⟩:=Int.eq_ofNat_of_zero_le hi0
 have hkn:k<=l.length:=by omega
 simp only[G1];refine⟨enters_of Tryz.func168 (by kernel_rfl) rfl,λw I θ zs hargs hrel hval _=>?_⟩;obtain⟨zs⟩:=zs
 cases hargs with|cons h1 t=>cases t with|cons h2 t=>cases t with|cons h3 t=>cases t with|nil=>
 obtain rfl:=Rep.int_inv h2;rcases rowI_at hrel (l:=v) rfl rfl hf h3 with⟨_,h,_⟩|⟨vg,vc,hvθ,rfl,hvc,_,⟨vcur,hvh,hvs'⟩,hvcell,hvI⟩
 ·rw[h]at hm;cases hm
 have hvs:∀(W:World),(∀ o,W.cell? ⟨vg,o,none⟩=w.cell? ⟨vg,o,none⟩)->∀ j u,(v.map (Value.int .i64))[j]?=some u->W.cell? ⟨vg,0+j,none⟩=some u:=λW hW j u hj=>by
  obtain⟨h1,rfl⟩:=f5 hj;rw[Gc,hW,hvcell j h1]
 generalize hr:l.take k++v++l.drop k=r
 have hrl:r.length=l.length+v.length:=by rw[<- hr];simp;omega
 have hr1:∀ j,j<k->r.getD j 0=l.getD j 0:=λj hj=>by rw[<- hr];simp only[List.getD];rw[KT,U2 (by simp;omega),List.getElem?_take_of_lt hj]
 have hr2:∀ j,j<v.length->r.getD (k+j) 0=v.getD j 0:=λj hj=>by
  rw[<- hr];simp only[List.getD];rw[KT,Ww (by simp;omega),U2 (by simp;omega)];congr 2;simp;omega
 have hr3:∀ j,k+v.length<=j->r.getD j 0=l.getD (j-v.length) 0:=λj hj=>by
  rw[<- hr];simp only[List.getD];rw[Ww (by simp;omega),QM];congr 2;simp;omega
 obtain⟨own1,hown1⟩:∃ o,o=Au (Ae [(34000,Own.arr 1 3 l.length (λi=>[.int .i64 (l.getD i 0)])),(34002,Own.arr 1 3 v.length f)]) 34002 (.arr 1 3 v.length (λi=>[.int .i64 (v.getD i 0)])):=⟨_,rfl⟩
 have hk1:Chg (Ae [(34000,Own.arr 1 3 l.length (λi=>[.int .i64 (l.getD i 0)])),(34002,Own.arr 1 3 v.length f)]) θ I w own1 θ I w:=by
  have:=I4 (nm:=34002) (s:=1) (e:=3) (m':=v.length) (f':=λi=>[.int .i64 (v.getD i 0)]) (t':=some (vg,vc)) (w':=w) hrel hval (λ_ _ _=>rfl) (.inr ⟨v.length,f,rfl,zzL5 _,λ_=>hvθ.symm⟩)
   (λ_ _ _=>rfl) rfl rfl rfl (zzL5 _) (λhh=>by cases hh)
   (λg' c' hh=>by
    obtain⟨rfl,rfl⟩:=Prod.mk.inj (OI hh);refine⟨vcur,hvh,hvc,‹_›,by rw[hvs',S6],λ_ _=>rfl,λi j hi hj=>?_,hvI⟩
    obtain rfl:j=0:=by omega
    have:=hvcell i hi;rw[K1 _ _ _ vcur 3 (0,0) hvh]at this;rw[S6,N6,Ok,this]
    exact⟨rfl,λ_=>.val _ _ (.int _ _)⟩)
   (λg' c' hh=>by
    obtain⟨rfl,rfl⟩:=Prod.mk.inj (OI hh)
    exact .inr ⟨(λhh=>by cases hh),vc,hvθ⟩)
  rw[U0 hvθ]at this;rw[hown1];exact this
 have ho0:own1 34000=some (.arr 1 3 l.length (λi=>[.int .i64 (l.getD i 0)])):=by rw[hown1];rfl
 have ho2:own1 34002≠none:=by rw[hown1];intro hh;cases hh
 have hH:∀ x,Au own1 34000 (.arr 1 3 r.length x)=Ae [(34000,Own.arr 1 3 r.length x),(34002,Own.arr 1 3 v.length (λi=>[.int .i64 (v.getD i 0)]))]:=λx=>by
  rw[hown1]
  funext nm
  simp only[Au,Ae]
  by_cases h1:nm=34000
  ·subst h1;rfl
  ·by_cases h2:nm=34002
   ·subst h2;rfl
   ·have e1:Nat.beq 34000 nm=false:=by cases e:Nat.beq 34000 nm;rfl;exact absurd (Co e).symm h1
    have e2:Nat.beq 34002 nm=false:=by cases e:Nat.beq 34002 nm;rfl;exact absurd (Co e).symm h2
    simp[h1,h2,e1,e2]
 have fin:∀(g c:Nat) (w':World) (e:Ending),r.length<=c->c<=maxLen->Lk w w' g->RX w' g c->(∀ j,j<r.length->w'.cell? ⟨g,j,none⟩=some (.int .i64 (r.getD j 0)))->(∀ j,¬ I g j)->(w.heap.size<=g\/∃ c',θ 34000=some (g,c'))->e = .returned (.slice (some ⟨g,0,none⟩) (l.length+v.length) c)->
   ∃ v' I' θ',e = .returned v'/\Chg (Ae [(34000,Own.arr 1 3 l.length (λi=>[.int .i64 (l.getD i 0)])),(34002,Own.arr 1 3 v.length f)]) θ I w (Ae [(34000,Own.arr 1 3 r.length (λi=>[.int .i64 (r.getD i 0)])),(34002,Own.arr 1 3 v.length (λi=>[.int .i64 (v.getD i 0)]))]) θ' I' w' /\
    Rep I' (Ae [(34000,Own.arr 1 3 r.length (λi=>[.int .i64 (r.getD i 0)])),(34002,Own.arr 1 3 v.length (λi=>[.int .i64 (v.getD i 0)]))]) θ' w' v' (.vsl 34000 r.length):=by
  intro g c w' e hc hmx hlk hblk hcell hI hg he;obtain⟨v',θ',e1,e2,e3⟩:=dq (r:=r) hk1.rel hk1.valid ho0 (by omega) hc hmx hlk hblk hcell hI hg;rw[hH]at e2 e3;exact⟨v',I,θ',by rw[he,<- e1,hrl],hk1.trans e2,e3⟩
 have hNI:∀ j,¬ I w.heap.size j:=λj hj=>by
  obtain⟨u,hu⟩:=hval _ _ hj;have:=L7 hu;simp at this
 have h1v:=cA v;have hvl:(v.map (Value.int .i64)).length=v.length:=Ky ..
 have hbig:(l.length+v.length)*8<=140737488355328:=by omega
 rcases rowI_at hk1.rel rfl ho0 (λ_ _=>rfl) (h1.mono (λ_ _ h=>h) (λ_ _ _=>rfl) hk1.le) with⟨_,rfl,a,rfl⟩|⟨g,c,hθ,rfl,hc,hcm,hB,hcell,hI⟩
 ·
  obtain rfl:k=0:=by simp at hkn;omega
  refine(Any2.slices_Insert_int_end_grow FF a 0 0 vg 0 v.length vc [] (v.map (Value.int .i64)) w hm (zzL5 _) (by omega) (by simpa using hbig) rfl hvl (λ_=>rfl) (λ_ _ _ _ h=>by simp at h) (hvs w λ_=>rfl) h1v).mono λe w' ⟨he,hw⟩=>?_;subst hw;have hG:=grownCap_ge w (0+v.length) 0 (insRen.t 3);have hGm:grownCap w (0+v.length) 0 (insRen.t 3)<=maxLen:=grownCap_le_maxLen _ _ _ _ (by unfold maxLen;omega);simp only[List.length_nil]at he ⊢ hrl
  generalize grownCap w (0+v.length) 0 (insRen.t 3)=G at hG hGm he ⊢
  refine fin w.heap.size G _ e (by omega) hGm ((AX w _).trans (OP (zzL5 _))) ?_ (λj hj=>?_) hNI (.inl (zzL5 _)) he
  ·have:=HA (w:=w.drew) (([]++v.map (Value.int .i64)).toArray++Builtin.zeroCells (Value.int .i64 0).cells (G-(0+v.length)))
   have e:(([]++v.map (Value.int .i64)).toArray++Builtin.zeroCells (Value.int .i64 0).cells (G-(0+v.length))).size=G:=by
    simp[Builtin.zeroCells,Value.cells];omega
   rw[e]at this;exact this
  ·have e:=World.cell?_alloc_at (w:=w.drew) (([]++v.map (Value.int .i64)).toArray++Builtin.zeroCells (Value.int .i64 0).cells (G-(0+v.length))) (insRen.t 3) w.heap.size j rfl;rw[e,Wx,WS _ _ (by rw[hvl];omega),Ql _ (by omega)];have:=hr2 j (by omega);rw[Gc]at this;rw[this]
 ·have hcl:(l.map (Value.int .i64)).length=l.length:=Ky ..;have h1c:=cA l
  have hc63:c<=9223372036854775807:=by unfold maxLen at hcm;exact hcm
  have hcs:∀ j u,(l.map (Value.int .i64))[j]?=some u->w.cell? ⟨g,0+j,none⟩=some u:=λj u hj=>by
   obtain⟨h1,rfl⟩:=f5 hj;rw[Gc,hcell j h1]
  have hgv:vg≠g:=λe=>by
   subst e;have:=hrel.inj 34000 34002 vg c vc (by intro hh;cases hh) (by intro hh;cases hh) hθ hvθ
   cases this
  by_cases hroomc:l.length+v.length<=c
  ·by_cases hke:k=l.length
   ·subst hke;refine(Any2.slices_Insert_int_end_room FF g 0 l.length c vg 0 v.length vc (v.map (Value.int .i64)) w hm hroomc hc63 hvl (λj hj=>NO hB (by omega)) (λj hj=>MO hB _) (hvs w λ_=>rfl) h1v).mono λe w' ⟨he,hw⟩=>?_;subst hw;have hlk:=Uc g (v.map (Value.int .i64)) (0+l.length) w;refine fin g c _ e (by omega) hcm hlk (hlk.blk c hB) (λj hj=>?_) hI (.inr ⟨c,hθ⟩) he;rw[Yd hB (by rw[hvl];omega),hvl]
    split
    ·rw[Ql _ (by omega),<- hr2 _ (by omega)];congr 3;omega
    ·rw[hcell j (by omega),hr1 j (by omega)]
   ·refine(Any2.slices_Insert_int_shift FF g 0 l.length c k vg 0 v.length vc (l.map (Value.int .i64)) (v.map (Value.int .i64)) w (by omega) hm hroomc hc63 hgv hcl hvl hcs (λj hj=>NO hB (by omega)) (λj hj=>MO hB _) (hvs w λ_=>rfl) h1c h1v
     3 3 vc c ?_ ?_ (by omega) ?_ ?_).mono λe w' ⟨he,hw⟩=>?_
    ·simp[World.shape?,hvh,hvs']
    ·obtain⟨cur,q1,q2⟩:=hB;simp[World.shape?,q1,q2]
    ·exact MO ⟨vcur,hvh,hvs'⟩ _
    ·exact MO ⟨vcur,hvh,hvs'⟩ _
    subst hw;have hl1:=(AX w g).trans (Uc g ((l.map (Value.int .i64)).drop k) (0+(k+v.length)) w.drew);have hB0:=(AX w g).blk c hB;have hB1:=hl1.blk c hB;have hl2:=hl1.trans (Uc g (v.map (Value.int .i64)) (0+k) _);refine fin g c _ e (by omega) hcm hl2 (hl2.blk c hB) (λj hj=>?_) hI (.inr ⟨c,hθ⟩) he;rw[Yd hB1 (by rw[hvl];omega),hvl,Yd hB0 (by rw[Z0,hcl];omega),Z0,hcl]
    split
    ·rw[Ql _ (by omega),<- hr2 _ (by omega)];congr 3;omega
    ·split
     ·rw[QM,Ql _ (by omega),hr3 j (by omega)];congr 3;omega
     ·show w.cell? _=_
      rw[hcell j (by omega),hr1 j (by omega)]
  ·have hG:=grownCap_ge w (l.length+v.length) c (insRen.t 3);have hGm:grownCap w (l.length+v.length) c (insRen.t 3)<=maxLen:=grownCap_le_maxLen _ _ _ _ (by unfold maxLen;omega)
   by_cases hke:k=l.length
   ·subst hke
    refine(Any2.slices_Insert_int_end_grow FF (some ⟨g,0,none⟩) l.length c vg 0 v.length vc (l.map (Value.int .i64)) (v.map (Value.int .i64)) w hm hc (by omega) hbig hcl hvl (λh=>by cases h) (λa ha j u hj=>by
     obtain rfl:=OI ha
     rw[N5];exact hcs j u hj) (hvs w λ_=>rfl) h1v).mono λe w' ⟨he,hw⟩=>?_
    subst hw
    generalize grownCap w (l.length+v.length) c (insRen.t 3)=G at hG hGm he ⊢
    refine fin w.heap.size G _ e (by omega) hGm ((AX w _).trans (OP (zzL5 _))) ?_ (λj hj=>?_) hNI (.inl (zzL5 _)) he
    ·have:=HA (w:=w.drew) ((l.map (Value.int .i64)++v.map (Value.int .i64)).toArray++Builtin.zeroCells (Value.int .i64 0).cells (G-(l.length+v.length)))
     have e:((l.map (Value.int .i64)++v.map (Value.int .i64)).toArray++Builtin.zeroCells (Value.int .i64 0).cells (G-(l.length+v.length))).size=G:=by
      simp[Builtin.zeroCells,Value.cells];omega
     rw[e]at this;exact this
    ·have e:=World.cell?_alloc_at (w:=w.drew) ((l.map (Value.int .i64)++v.map (Value.int .i64)).toArray++Builtin.zeroCells (Value.int .i64 0).cells (G-(l.length+v.length))) (insRen.t 3) w.heap.size j rfl;rw[e,WS _ _ (by rw[G7,hcl,hvl];omega)]
     by_cases hj1:j<l.length
     ·rw[U2 (by omega),Ql _ hj1,hr1 j hj1]
     ·rw[Ww (by omega),hcl,Ql _ (by omega),<- hr2 _ (by omega)];congr 3;omega
   ·refine(Any2.slices_Insert_int_grow FF g 0 l.length c k vg 0 v.length vc (l.map (Value.int .i64)) (v.map (Value.int .i64)) w (by omega) hm hc (by omega) hbig hcl hvl hcs (hvs w λ_=>rfl) h1c h1v).mono λe w' ⟨he,hw⟩=>?_;subst hw
    generalize grownCap w (l.length+v.length) c (insRen.t 3)=G at hG hGm he ⊢
    generalize hA:((l.map (Value.int .i64)).take k).toArray++Builtin.zeroCells (Value.int .i64 0).cells (l.length+v.length-k)++Builtin.zeroCells (Value.int .i64 0).cells (G-(l.length+v.length))=A
    have hAs:A.size=G:=by rw[<- hA];simp[Builtin.zeroCells,Value.cells];omega
    have b0:RX (w.alloc (.cells A 3)) w.heap.size G:=by have:=HA (w:=w) A;rwa[hAs]at this
    have k0:Lk w (w.alloc (.cells A 3)) w.heap.size:=OP (zzL5 _);have k1:=(AX (w.alloc (.cells A 3)) w.heap.size);have b1:=k1.blk G b0;have k2:=Uc w.heap.size (v.map (Value.int .i64)) k (w.alloc (.cells A 3)).drew;have b2:=k2.blk G b1;have k3:=AX ((w.alloc (.cells A 3)).drew.setCells w.heap.size k (v.map (Value.int .i64))) w.heap.size;have b3:=k3.blk G b2;have k4:=Uc w.heap.size ((l.map (Value.int .i64)).drop k) (k+v.length) ((w.alloc (.cells A 3)).drew.setCells w.heap.size k (v.map (Value.int .i64))).drew;refine fin w.heap.size G _ e (by omega) hGm ((((k0.trans k1).trans k2).trans k3).trans k4) (k4.blk G b3) (λj hj=>?_) hNI (.inl (zzL5 _)) he
    show(((w.alloc (Obj.cells A 3)).drew.setCells w.heap.size k (v.map (Value.int .i64))).drew.setCells w.heap.size (k+v.length) ((l.map (Value.int .i64)).drop k)).cell? ⟨w.heap.size,j,none⟩=_
    rw[Yd b3 (by rw[Z0,hcl];omega),Z0,hcl]
    split
    ·rw[QM,Ql _ (by omega),hr3 j (by omega)];congr 3;omega
    ·show((w.alloc (Obj.cells A 3)).drew.setCells w.heap.size k (v.map (Value.int .i64))).cell? ⟨w.heap.size,j,none⟩=_
     rw[Yd b1 (by rw[hvl];omega),hvl]
     split
     ·rw[Ql _ (by omega),<- hr2 _ (by omega)];congr 3;omega
     ·have e:=World.cell?_alloc_at (w:=w) A 3 w.heap.size j rfl
      show(w.alloc (.cells A 3)).cell? _=_
      rw[e,<- hA,Array.append_assoc,WS _ _ (by rw[GO,hcl];omega),List.getElem?_take_of_lt (by omega),Ql _ (by omega),hr1 j (by omega)]
def bQ:Go.Shelf.Ren:=⟨fun|189=>172|125=>203|257=>202|128=>238|129=>239|294=>230|295=>231|296=>232|297=>233|298=>234|299=>235|216=>198|300=>236|301=>237|328=>249|329=>250|330=>251|331=>252|332=>253|215=>228|343=>258|n=>n,fun|28=>22|3=>3|46=>220|0=>0|51=>233|53=>49|4=>4|183=>246|182=>245|131=>208|5=>5|9=>9|218=>254|222=>258|228=>262|229=>145|n=>n,fun|n=>n⟩
theorem gW:Go.Proofs.Lays.n189 Tryz.prog bQ:={
 mixed:=by kernel_rfl
 f125:=Tryz.func203.trans (Bn some (by kernel_rfl))
 f128:=Tryz.func238.trans (Bn some (by kernel_rfl))
 f129:=Tryz.func239.trans (Bn some (by kernel_rfl))
 f189:=Tryz.func172.trans (Bn some (by kernel_rfl))
 f215:=Tryz.func228.trans (Bn some (by kernel_rfl))
 f216:=Tryz.func198.trans (Bn some (by kernel_rfl))
 f257:=Tryz.func202.trans (Bn some (by kernel_rfl))
 f294:=Tryz.func230.trans (Bn some (by kernel_rfl))
 f295:=Tryz.func231.trans (Bn some (by kernel_rfl))
 f296:=Tryz.func232.trans (Bn some (by kernel_rfl))
 f297:=Tryz.func233.trans (Bn some (by kernel_rfl))
 f298:=Tryz.func234.trans (Bn some (by kernel_rfl))
 f299:=Tryz.func235.trans (Bn some (by kernel_rfl))
 f300:=Tryz.func236.trans (Bn some (by kernel_rfl))
 f301:=Tryz.func237.trans (Bn some (by kernel_rfl))
 f328:=Tryz.func249.trans (Bn some (by kernel_rfl))
 f329:=Tryz.func250.trans (Bn some (by kernel_rfl))
 f330:=Tryz.func251.trans (Bn some (by kernel_rfl))
 f331:=Tryz.func252.trans (Bn some (by kernel_rfl))
 f332:=Tryz.func253.trans (Bn some (by kernel_rfl))
 f343:=Tryz.func258.trans (Bn some (by kernel_rfl))
 t0:=Tryz.underlying0
 a0:=Tryz.isAgg0
 z0:=Tryz.sizeOf0
 v0:=Tryz.zeroValue0
 t3:=Tryz.underlying3
 a3:=Tryz.isAgg3
 z3:=Tryz.sizeOf3
 v3:=Tryz.zeroValue3
 t4:=Tryz.underlying4
 a4:=Tryz.isAgg4
 z4:=Tryz.sizeOf4
 v4:=Tryz.zeroValue4
 t5:=Tryz.underlying5
 a5:=Tryz.isAgg5
 z5:=Tryz.sizeOf5
 v5:=Tryz.zeroValue5
 t9:=Tryz.underlying9
 a9:=Tryz.isAgg9
 z9:=Tryz.sizeOf9
 v9:=Tryz.zeroValue9
 t28:=Tryz.underlying22
 a28:=Tryz.isAgg22
 z28:=Tryz.sizeOf22
 v28:=Tryz.zeroValue22
 t46:=Tryz.underlying220
 a46:=Tryz.isAgg220
 z46:=Tryz.sizeOf220
 v46:=Tryz.zeroValue220
 t51:=Tryz.underlying233
 a51:=Tryz.isAgg233
 z51:=Tryz.sizeOf233
 v51:=Tryz.zeroValue233
 t53:=Tryz.underlying49
 a53:=Tryz.isAgg49
 z53:=Tryz.sizeOf49
 v53:=Tryz.zeroValue49
 t131:=Tryz.underlying208
 a131:=Tryz.isAgg208
 z131:=Tryz.sizeOf208
 v131:=Tryz.zeroValue208
 t182:=Tryz.underlying245
 a182:=Tryz.isAgg245
 z182:=Tryz.sizeOf245
 v182:=Tryz.zeroValue245
 t183:=Tryz.underlying246
 a183:=Tryz.isAgg246
 z183:=Tryz.sizeOf246
 v183:=Tryz.zeroValue246
 t218:=Tryz.underlying254
 a218:=Tryz.isAgg254
 z218:=Tryz.sizeOf254
 v218:=Tryz.zeroValue254
 t222:=Tryz.underlying258
 a222:=Tryz.isAgg258
 z222:=Tryz.sizeOf258
 v222:=Tryz.zeroValue258
 t228:=Tryz.underlying262
 a228:=Tryz.isAgg262
 z228:=Tryz.sizeOf262
 v228:=Tryz.zeroValue262
 t229:=Tryz.underlying145
 a229:=Tryz.isAgg145
 z229:=Tryz.sizeOf145
 v229:=Tryz.zeroValue145 }
def SL:Go.Shelf.Ren:=⟨fun|15=>171|n=>n,fun|22=>22|3=>3|4=>4|n=>n,fun|n=>n⟩
theorem HH:Go.Proofs.Lays2.n15 Tryz.prog SL:={
 mixed:=by kernel_rfl
 f15:=Tryz.func171.trans (Bn some (by kernel_rfl))
 t3:=Tryz.underlying3
 a3:=Tryz.isAgg3
 z3:=Tryz.sizeOf3
 v3:=Tryz.zeroValue3
 t4:=Tryz.underlying4
 a4:=Tryz.isAgg4
 z4:=Tryz.sizeOf4
 v4:=Tryz.zeroValue4
 t22:=Tryz.underlying22
 a22:=Tryz.isAgg22
 z22:=Tryz.sizeOf22
 v22:=Tryz.zeroValue22
 i3:=by kernel_rfl }
def SM:Go.Shelf.Ren:=⟨fun|20=>173|n=>n,fun|22=>22|3=>3|4=>4|0=>0|n=>n,fun|n=>n⟩
theorem UE:Go.Proofs.Lays2.n20 Tryz.prog SM:={
 mixed:=by kernel_rfl
 f20:=Tryz.func173.trans (Bn some (by kernel_rfl))
 t0:=Tryz.underlying0
 a0:=Tryz.isAgg0
 z0:=Tryz.sizeOf0
 v0:=Tryz.zeroValue0
 t3:=Tryz.underlying3
 a3:=Tryz.isAgg3
 z3:=Tryz.sizeOf3
 v3:=Tryz.zeroValue3
 t4:=Tryz.underlying4
 a4:=Tryz.isAgg4
 z4:=Tryz.sizeOf4
 v4:=Tryz.zeroValue4
 t22:=Tryz.underlying22
 a22:=Tryz.isAgg22
 z22:=Tryz.sizeOf22
 v22:=Tryz.zeroValue22
 i3:=by kernel_rfl }
open Go.Sort
section
variable {I:Nat->Nat->Prop} {θ:Nat->Option (Nat×Nat)} {w w':World}
theorem eL(I:Nat->Nat->Prop)(θ:Nat->Option (Nat×Nat))(w:World):Hh I (Ae []) θ w:=
 ⟨(λ_ _ _ h=>by cases h),(λ_ _ _ _ h=>by cases h),(λ_ _ _ _ _ h=>(h rfl).elim),(λ_ _ _ _ _ h=>by cases h),(λ_ _ h=>by cases h),(λ_ _ _ h=>by cases h)⟩
theorem my{own:Nat->Option Own}{zs:Array Value}{x:AV}(h:RepL I own θ w zs.toList [x]):∃ v,zs = #[v]/\Rep I own θ w v x:=by
 obtain⟨l⟩:=zs
 cases h with
 | cons h1 h2=>cases h2;exact⟨_,rfl,h1⟩
theorem BU(hb:Below w.heap.size w w')(hval:∀ b o,I b o->∃ u,w.cell? ⟨b,o,none⟩=some u){N:Nat->Nat->Prop}(hN:∀ b o,N b o->w.heap.size<=b/\∃ u,w'.cell? ⟨b,o,none⟩=some u) :
  Chg (Ae []) θ I w (Ae []) θ (λb o=>I b o\/N b o) w':=
 have hcell:∀ b o,I b o->w'.cell? ⟨b,o,none⟩=w.cell? ⟨b,o,none⟩:=λb o hi=>by
  obtain⟨u,hu⟩:=hval b o hi;exact GM (a:=⟨b,o,none⟩) (hb.block b (L7 hu))
 {imm:=λ_ _ h=>.inl h,cell:=hcell,le:=λ_ _ h=>(by cases h),rel:=eL _ _ _,
  valid:=λb o hi=>by
   rcases hi with hi|hi
   ·obtain⟨u,hu⟩:=hval b o hi;exact⟨u,(hcell b o hi).trans hu⟩
   ·exact(hN b o hi).2,
  os:=hb.os,tape:=hb.tape,output:=hb.output,drawn:=λh=>h.elim,grow:=hb.size,frame:=λb hlt _=>hb.block b hlt,new:=λ_ _ _ h=>(h rfl).elim,
  immNew:=λb o hi=>by
   rcases hi with hi|hi
   ·exact .inl hi
   ·exact .inr (.inl (hN b o hi).1) }
end
theorem EO{w W:World}{g n:Nat}{os:Array Obj}{d:Array Int}(hb:Below w.heap.size w W)(hg:w.heap.size<=g):Below w.heap.size w (grow (putRow (Value.int .i64) (Sort.ahead W n) g 0 d) os):=by
 have k:=grownBy_sortedI (w:=W) (g:=g) (n:=n) (os:=os) d;refine hb.trans ⟨k.os,k.tape,k.output,k.size,λb hlt=>k.block b (Nat.lt_of_lt_of_le hlt hb.size) (λe=>?_)⟩;have:=OI e;omega
def WE(w W:World)(g cap n:Nat)(zs:List Int):Prop:=
 Below w.heap.size w W/\w.heap.size<=g/\∃ cur,W.heap[g]?=some (.cells cur 3 (0,0))/\n<=cap/\cap<=maxLen/\cur.size=cap/\cur.toList.take zs.length=zs.map (Value.int .i64)/\zs.length=n
theorem gn{w W:World}{v:Value}{n:Nat}{zs:List Int}(h:W.ownsRow w.heap.size 3 1 v n (zs.map (Value.int .i64)))(hne:v≠.slice none 0 0)(hb:Below w.heap.size w W):∃ g cap,v = .slice (some ⟨g,0,none⟩) n cap/\WE w W g cap n zs:=by
 have hl:zs.length=n:=by have:=h.1;simpa using this
 rcases h.2 with⟨rfl,_⟩|⟨g,cap,cur,rfl,hg,hcur,hcap,hmax,hsz,ht⟩
 ·exact(hne rfl).elim
 ·rw[S6]at hsz ht;exact⟨g,cap,rfl,hb,hg,cur,hcur,hcap,hmax,hsz,by rw[hl];exact ht,hl⟩
theorem lU(ad:Addr)(c:Nat)(w:World):Calls Tryz.prog 171 #[.slice (some ad) 0 c] w λe W=>∃ g cap,e = .returned (.slice (some ⟨g,0,none⟩) 0 cap)/\WE w W g cap 0 []:=
 (Any.slices_Clone_int_zero HH ad c w).mono λe W ⟨v,he,hown,hne,hb⟩=>by
  obtain⟨g,cap,rfl,h⟩:=gn (zs:=[]) hown hne hb;exact⟨g,cap,he,h⟩
theorem pm(b off n c:Nat)(zs:List Int)(w:World)(hz:zs.length=n)(hbig:n<=17592186044416)(hc:∀ j,j<n->w.cell? ⟨b,off+j,none⟩=some (.int .i64 (zs.getD j 0))) :
  Calls Tryz.prog 171 #[.slice (some ⟨b,off,none⟩) n c] w λe W=>∃ g cap,e = .returned (.slice (some ⟨g,0,none⟩) n cap)/\WE w W g cap n zs:=
 (Any.slices_Clone_int HH b off n c zs w (by omega) (by omega) (λj hj=>hc j (by omega))).mono λe W ⟨v,he,hown,hne,hb⟩=>by
  rw[show zs.take n=zs by rw[<- hz];exact QP ..]at hown;obtain⟨g,cap,rfl,h⟩:=gn hown hne hb;exact⟨g,cap,he,h⟩
theorem tc{w W:World}{g cap n:Nat}{zs:List Int}(h:WE w W g cap n zs)(hbig:n<=17592186044416):Calls Tryz.prog 172 #[.slice (some ⟨g,0,none⟩) n cap] W λe W2=>e = .returned (.tuple #[])/\WE w W2 g cap n (zs.mergeSort λx y=>decide (x<=y)):=by
 obtain⟨hb,hg,cur,hcur,hcap,hmax,hsz,ht,rfl⟩:=h;refine(Any.slices_Sort_int gW g 0 cap zs W (holds_of_blockI hcur ht) (FA hcur) (by omega)).mono λe W2 ⟨he,q,os,hW⟩=>⟨he,?_⟩;subst hW;have hl:(zs.mergeSort λx y=>decide (x<=y)).length=zs.length:=List.length_mergeSort ..;have b2:=EO (n:=q) (os:=os) (d:=(zs.mergeSort λx y=>decide (x<=y)).toArray) hb hg;exact⟨b2,hg,_,heap_sortedI _ hcur,hcap,hmax,by simp[putCells,hsz],take_putCellsI cur _ (by omega),hl⟩
theorem iz{w W:World}{g cap n:Nat}{zs:List Int}(h:WE w W g cap n zs)(hbig:n<=17592186044416):Calls Tryz.prog 173 #[.slice (some ⟨g,0,none⟩) n cap] W λe W2=>e = .returned (.slice (some ⟨g,0,none⟩) (Lib.compact zs).length cap)/\WE w W2 g cap (Lib.compact zs).length (Lib.compact zs):=by
 obtain⟨hb,hg,cur,hcur,hcap,hmax,hsz,ht,rfl⟩:=h;refine(Any.slices_Compact_int UE g 0 cap zs W (holds_of_blockI hcur ht) (by omega) hcap).mono λe W2 ⟨he,q,hW⟩=>⟨he,?_⟩;subst hW;have hcl:=Lib.compact_length_le zs
 generalize Lib.compact zs=cs at hcl ⊢
 generalize hts:cs++List.replicate (zs.length-cs.length) (0:Int)=ts
 have htl:ts.length=zs.length:=by rw[<- hts,G7,Pu];omega
 have b2:=EO (n:=q) (os:=#[]) (d:=ts.toArray) hb hg;have h2:=heap_sortedI (n:=q) (os:=#[]) ts.toArray hcur;rw[grow_empty]at b2 h2;have h3:=take_putCellsI cur ts (by omega);refine⟨b2,hg,_,h2,by omega,hmax,by simp[putCells,hsz],?_,rfl⟩;have:=Bn (List.take cs.length) h3;rw[List.take_take,Nat.min_eq_left (by omega),<- List.map_take,<- hts,List.take_left' rfl]at this;rw[<- hts];exact this
def oQ(w w':World)(v:Value)(r:List Int):Prop:=
 (v = .slice none 0 0/\r=[])\/∃ g cap,v = .slice (some ⟨g,0,none⟩) r.length cap/\WE w w' g cap r.length r
set_option maxHeartbeats 4000000 in
set_option maxRecDepth 100000 in
theorem nK(a:Option Addr)(n c:Nat)(zs:List Int)(w:World)(hz:zs.length=n)(hn:a=none->n=0)(hbig:n<=17592186044416)
  (hc:0<n->∃ b off,a=some ⟨b,off,none⟩/\∀ j,j<n->w.cell? ⟨b,off+j,none⟩=some (.int .i64 (zs.getD j 0))) :
  Calls Tryz.prog 131 #[.slice a n c] w λe w'=>∃ v,e = .returned v/\Below w.heap.size w w'/\oQ w w' v (Lib.compact (zs.mergeSort λx y=>decide (x<=y))):=by
 cases a with
 | none=>
  obtain rfl:=hn rfl;obtain rfl:zs=[]:=zzL106.1 hz
  have hr:Lib.compact (([]:List Int).mergeSort λx y=>decide (x<=y))=[]:=by simp[Lib.compact,Lib.compactUpTo]
  rw[hr];have h1:Calls Tryz.prog 171 #[.slice none 0 c] w λe w'=>e = .returned (.slice none 0 0)/\w'=w:=Any.slices_Clone_int_nil HH 0 c w;have h2:Calls Tryz.prog 172 #[.slice none 0 0] w λe w'=>e = .returned (.tuple #[])/\w'=w:=Any.slices_Sort_int_none gW none 0 w;have h3:Calls Tryz.prog 173 #[.slice none 0 0] w λe w'=>e = .returned (.slice none 0 0)/\w'=w:=Any.slices_Compact_int_empty UE none 0 w
  go_enter Tryz.func131,Tryz.ntmps131
  go_wp2_with (first
   | (go_at_call 171;refine h1.mono ?_;rintro e W ⟨rfl,rfl⟩)
   | (go_at_call 172;refine h2.mono ?_;rintro e W ⟨rfl,rfl⟩)
   | (go_at_call 173;refine h3.mono ?_;rintro e W ⟨rfl,rfl⟩))
  go_ret
  exact⟨_,rfl,Below.refl _ _,.inl ⟨rfl,rfl⟩⟩
 | some ad=>
  have h1:Calls Tryz.prog 171 #[.slice (some ad) n c] w λe W=>∃ g cap,e = .returned (.slice (some ⟨g,0,none⟩) n cap)/\WE w W g cap n zs:=by
   by_cases h0:n=0
   ·subst h0;obtain rfl:zs=[]:=zzL106.1 hz;exact lU ad c w
   ·obtain⟨b,off,hab,hcell⟩:=hc (by omega);obtain rfl:=OI hab;exact pm b off n c zs w hz hbig hcell
  go_enter Tryz.func131,Tryz.ntmps131
  go_wp2_with (first
   | (go_at_call 171;refine h1.mono ?_;rintro e W ⟨g,cap,rfl,hO⟩)
   | (go_at_call 172;refine(tc hO hbig).mono ?_;rintro e W2 ⟨rfl,hO2⟩)
   | (go_at_call 173;refine(iz hO2 hbig).mono ?_;rintro e W3 ⟨rfl,hO3⟩))
  go_ret
  exact⟨_,rfl,hO3.1,.inr ⟨_,_,rfl,hO3⟩⟩
def dn(x:Int):List Int->List Int
 | []=>[x]
 | y::l=>if x<=y then x::y::l else y::dn x l
def mC:List Int->List Int
 | []=>[]
 | x::l=>dn x (mC l)
theorem insI_perm(x:Int):∀ l,(dn x l).Perm (x::l)
 | []=>.refl _
 | y::l=>by
  unfold dn
  split
  ·exact .refl _
  ·exact((insI_perm x l).cons y).trans (.swap x y l)
theorem gM{x:Int}:∀{l:List Int},l.Pairwise (·<=·)->(dn x l).Pairwise (·<=·)
 | [],_=>by simp[dn]
 | y::l,h=>by
  have h':=zzL85.1 h;unfold dn
  split
  ·rename_i hxy
   exact zzL85.2 ⟨λz hz=>by
    rcases zzL26.1 hz with rfl|hz
    ·exact hxy
    ·exact Int.le_trans hxy (h'.1 z hz),h⟩
  ·rename_i hxy
   refine zzL85.2 ⟨λz hz=>?_,gM h'.2⟩;rcases zzL26.1 ((insI_perm x l).mem_iff.1 hz) with rfl|hz
   ·omega
   ·exact h'.1 z hz
theorem UD:∀ l,(mC l).Perm l
 | []=>.refl _
 | x::l=>(insI_perm x _).trans ((UD l).cons x)
theorem gQ:∀ l,(mC l).Pairwise (·<=·)
 | []=>.nil
 | x::l=>gM (gQ l)
theorem gP(l:List Int):mC l=l.mergeSort λx y=>decide (x<=y):=by
 refine List.Perm.eq_of_pairwise (le:=(·<=·)) (λa b _ _ h1 h2=>Int.le_antisymm h1 h2) (gQ l) ?_ ((UD l).trans (List.mergeSort_perm l _).symm);have:=List.pairwise_mergeSort (le:=λ(x y:Int)=>decide (x<=y)) (λa b c h1 h2=>by simp at *;omega) (λa b=>by simp;omega) l
 exact this.imp λh=>by simpa using h
def GL(l:List Int):Option (List Int):=Az (l.length<=17592186044416) (some (Lib.compact (mC l)))
theorem en(l r:List Int)(h:GL l=some r):Spec Tryz.prog 131 [AV.list 1 (λx=>[.int .i64 x]) (0:Int) l .none] [] (AV.list 1 (λx=>[.int .i64 x]) (0:Int) r .none) []:=by
 obtain⟨hlen,h⟩:=J7 h;rw[gP]at h;obtain rfl:=OI h;refine⟨enters_of Tryz.func131 (by kernel_rfl) rfl,λw I θ zs hargs _ hval _=>?_⟩;obtain⟨v,rfl,hv⟩:=my hargs;obtain⟨_,a,cap,us,rfl,hcap,hmax,hz,hnn,h1,hl,hr⟩:=hv.slice_val.slice_inv
 have hint:∀ i,i<l.length->us i = .int .i64 (l.getD i 0):=λi hi=>by
  have:=hr i 0 hi (by omega);rw[S6,N6]at this;have h2:RepV I w (us i) (.int .i64 (l.getD i 0)):=this;exact Rep.int_inv (own:=Ae []) (θ:=θ) (.val _ _ h2)
 refine(nK a l.length cap l w rfl (λha=>by have:=hnn ha;omega) hlen (λhp=>?_)).mono λe w' ⟨v,he,hb,hout⟩=>?_
 ·obtain⟨b,rfl,hs,_,hcell⟩:=hz hp;obtain⟨blk,off,spot⟩:=b;simp only at hs hcell;subst hs;exact⟨blk,off,rfl,λj hj=>by rw[hcell j (by omega),hint j hj]⟩
 ·generalize Lib.compact (l.mergeSort λx y=>decide (x<=y))=r at hout ⊢
  rcases hout with⟨rfl,rfl⟩|⟨g,cap',rfl,_,hg,cur,hcur,hc1,hc2,hc3,htake,_⟩
  ·exact⟨_,_,θ,he,BU hb hval (N:=λ_ _=>False) (λ_ _ h=>h.elim),.val _ _ (.slice none 0 0 1 _ (λ_=>undef) (zzL5 _) (Qh _) (λh=>by cases h) (λ_=>rfl) (λj hj=>by simp at hj) (λi hi=>by cases hi) (λi c hi=>by cases hi))⟩
  ·have hcell:∀ j,j<r.length->w'.cell? ⟨g,j,none⟩=some (.int .i64 (r.getD j 0)):=λj hj=>by
    rw[K1 _ _ _ cur 3 (0,0) hcur]
    have h2:(cur.toList.take r.length)[j]?=(r.map (Value.int .i64))[j]?:=by rw[htake]
    rw[List.getElem?_take_of_lt hj,Array.getElem?_toList]at h2;rw[h2];simp[List.getD,hj]
   refine⟨_,_,θ,he,BU hb hval (N:=λb o=>b=g/\o<r.length) (λb o ⟨hbg,ho⟩=>⟨by omega,by subst hbg;exact⟨_,hcell o ho⟩⟩),.val _ _ (.slice (some ⟨g,0,none⟩) r.length cap' 1 _ (λj=>.int .i64 (r.getD j 0)) hc1 hc2 (λ_=>⟨⟨g,0,none⟩,rfl,rfl,λj hj=>.inr ⟨rfl,by simpa using hj⟩,λj hj=>by rw[Gc];exact hcell j (by omega)⟩) (λh=>by cases h) (λ_ _=>rfl) (λ_ _=>rfl) (λi c hi hc=>?_))⟩
   obtain rfl:c=0:=by omega
   rw[S6,N6];exact .int _ _
abbrev Ad:=List Int
abbrev Fl:=List (List Int)
def Lw:=[(30000,30000),(30001,30001),(37101,37101),(35002,35002),(35100,35100),(9100001,9100001)]
def Dn:=[30000,30001,35002,35100,37101,9100001]
def Ip:=[5,30000,30001,35002,35100,37101]
def Oc:=[4,30000,30001,35002,35100,37101,9100001]
def EE:=[(30000,30000),(30001,30001),(37101,37101),(35002,35002),(35100,35100)]
def Gh:=[30000,37006,9100005]
def Fy:=[30000,35000,37001]
def Sh:=[3,30000,30001,35002,35100,37101,9100001]
def Ia:=[0,1,5,6,7,9,10]
def Wb:=[31,30000,30001,35002,35100,37101,9100001]
def Qi:=[(30000,30000),(37006,37006),(9100005,9100005)]
def C3:=[30000,37006]
def S8:=[4,6,30000,30001,35002,35100,37101,9100001]
def Jn:=[3,30000,37006,9100005]
def U4:=[(30000,30000),(37001,37001),(35000,35000)]
def U5:=[13,30000,30001,35002,35100,37101,9100001]
def N7:=[(30000,30000),(37007,37007)]
def He:=[2,5,6,25,36007]
def L5:=[6,30000,37006,9100005]
def E3:=[30000,37007]
def AC:=[12,30000,30001,35002,35100,37101,9100001]
def GQ:=[3,34,30000,30001,35002,35100,37101,9100001]
def U6:=[30000,30001,35002,35100,37101]
def Wy:=[(30000,30000),(37006,37006)]
def N8:=[4,6,30000,37007]
def S9:=[26,30000,35000,37001]
def Qj:=[5,10,36011,36012]
def Hg:=[2,13,21]
def N9:=[8,30000,37006]
def F1:=[0,3,4]
def GR:=[30000,30001,37101,35002,35100]
def Cy:=[0,1]
def KW:=[1,2,3,4,5,10,11,12,18,19,20]
def J2:=[1,7,8,9]
def Wz:=[30000,37006,13000005]
def GS:=[3,5,30000,37006,9100005]
def GT:=[0,4,6,21,22,30,31,32]
def CO:=[2,5,6,7,26,27,28]
def sL:=[(30000,30000),(30001,30001),(37101,37101),(35002,35002),(35100,35100),(9100001,9100001),(6004,20000)]
def sM:=[(30000,30000),(30001,30001),(37101,37101),(35002,35002),(35100,35100),(9100001,9100001),(25,20000)]
def sO:=[(30000,30000),(30001,30001),(37101,37101),(35002,35002),(35100,35100),(9100001,9100001),(20,20000)]
def F2:=[2,3]
def CP:=[1,3,5,21,22,23]
def CQ:=[1,2,4,10,11,12]
def KY:=[5,30000,37006,9100005]
def iD:=[0,2,3,8,9,16,17,18,54,55,56,62,63,64]
def VT:=[3,5,6,48,60048000,60048001]
def Gx:=[4,5]
def iE:=[0,2,3,5,16,17,18,24,25,26,31,32,33]
def CR:=[2,5,6,7,8,9]
def sQ:=[(34,30000),(30000,30001),(37001,37101),(32,35002),(35000,35100),(37,9100001)]
def iF:=[30000,30001,37101,35002,35100,9100001]
def VU:=[3,9,30000,37006,9100005]
def U7:=[0,3,4,34]
def RP:=[0,2,6,7,90,91,92]
def AD:=[2,5,6,7,8]
def AE:=[1,3,4,5,6]
def cr:=[0,2,3,16,17,18,24,25,26]
def cu:=[0,2,3,16,17,18,54,55,56]
def VV:=[0,1,5,6,7,37,38,39]
def CS:=[0,1,3,9,10]
def n7:=[(30000,30000),(37006,37006),(13000005,9200005)]
def n8:=[(30000,30000),(37006,37006),(9300005,9200005)]
def iG:=[1,3,5,6,7,21,22,23,50,51,52]
def Ta:=[10,70010]
def CT:=[1,3,7,5005]
def n9:=[33,30000,30001,35002,35100,37101,9100001]
def oA:=[34,30000,30001,35002,35100,37101,9100001]
def iH:=[1,3,5,6,7,21,22,23,50,51]
def RQ:=[5007,30000,37007]
def VW:=[2,6,43,5602,30000]
def Ln:=[0,3]
def oB:=[1,3,5,6,7,10,11,21,22,23,50,51]
def oC:=[1,3,5,6,7,10,21,22,23,50,51,63]
def KZ:=[1,7,8,9,10]
def VX:=[3,31,30000,37006]
def RR:=[2,6,17,18,19]
def sR:=[(30000,30000),(37001,37001),(35000,35000),(6008,20000)]
def LA:=[1,6,7,8,9]
def iI:=[3,4,11,12,13,18,19,20]
def iJ:=[0,5,12,13,14,18,19,20]
def iK:=[3,5,14,15,16,21,22,23]
def W0:=[2,4,11]
def W1:=[2,4,10]
def iL:=[6,7,30000,37006,9100005]
def oD:=[1,3,5,6,7,9,21,22,23,50,51]
def VY:=[1,3,7,10,5005]
def RS:=[1,7,8,9,16]
def CU:=[0,21,22]
def cw:=[0,1,10,11,28,29]
def VZ:=[31,30000,37006]
def GU:=[0,1,7,8]
def GV:=[1,3,5005]
def iM:=[3,14,15,16,33,34,35]
def RT:=[0,37,38,39]
def cx:=[0,2,3,16,17,18]
def cy:=[0,1,9,21,22,23]
def sS:=[3,12,30000,30001,35002,35100,37101,9100001]
def sT:=[6004,30000,30001,35002,35100,37101,9100001]
def AF:=[0,1,2]
def er:=[0,4,6,21,22,30,31,32,33]
def et:=[0,4,6,21,22,30,31,32,40]
def EB:=[0,4,12,13]
def IY:=[0,5,8,9,10]
def ez:=[0,4,6,8,21,22,30,31,32]
def YK:=[1,2,4,5,13,14,15]
def IZ:=[(30000,30000)]
def nV:=[25,30000,30001,35002,35100,37101,9100001]
def nW:=[(30001,30000),(37101,37001),(35100,35000)]
def nX:=[20,30000,30001,35002,35100,37101,9100001]
def YL:=[0,1,2,6,14,15,16]
def nY:=[(30000,30000),(37006,37006),(8,9200005)]
def YM:=[2,3,6,7,8,36,37]
def V7:=[0,1,10]
def T0:=[2,5,6]
def JA:=[0,16,17,18]
def Mt:=[0,4]
def Mu:=[2,4]
def e7:=[1,2,4,5,6,7,13,14,15]
def YN:=[2,5,6,7,8,9,10]
def e8:=[6,8,30000,37006,9100005]
def RD:=[3,30000,37006]
def RE:=[0,1,7,10,11]
def YO:=[2,4,5,18,19,20]
def e9:=[0,6,8,9,10,11,12,13]
def YP:=[2,3,25,43,30000]
def YQ:=[0,2,4,11,12,13]
def V8:=[1,2,4]
def V9:=[0,1,5]
def O5:=[8,9]
def O6:=[6,7]
def nZ:=[4,8,32,34,37,30000,35000,37001]
def RF:=[3,11,12,13]
def RG:=[0,12,13,14]
def RH:=[0,1,6,7,8]
def RI:=[6,18,19,25]
def RJ:=[3,14,15,16]
def YR:=[0,4,12,13,14]
def JB:=[2,5,6,7]
def JC:=[0,1,2,3]
def JD:=[18,19,20]
def AB:=[2,5006]
def YS:=[1,5,11,12,13]
def YT:=[0,6,14,15,16]
def YU:=[0,6,39,40,41]
def T3:=[2,16]
def na:=[2,5,6,7,9,10,26,27,28,44]
def EC:=[1,4,22]
def nb:=[4,8,32,34,30000,35000,37001]
def fA:=[30000,37006,9300005]
def YV:=[2,6,43,30000]
def R9:=[1,2]
def fB:=[0,1,5,6,8,9,10]
def Sa:=[4,6]
def YW:=[0,2,8,9,10]
def ED:=[0,2,3]
def fD:=[0,1,5,14,15,16]
def nd:=[2,5,6,7,9,10,26,27,28]
def YX:=[3,10,11,12]
def RK:=[0,1,6,7]
def RL:=[0,1,5,6]
def YY:=[0,15,16,17]
def YZ:=[0,21,22,23]
def fE:=[0,6,8,9,11,49]
def nf:=[5,6,48,60048000,60048001]
def ng:=[(36011,34000),(55,34002)]
def nh:=[(36012,34000),(60,34002)]
def nj:=[(30000,30000),(25,37007)]
def fF:=[0,1,5,7,8,16]
def nk:=[2,5,6,7,26,27,28,29]
def np:=[1,2,4,6,10,11,12,20]
def nq:=[1,2,4,7,10,11,12,28]
def RM:=[5,18,19]
def RN:=[6,18,19]
def JE:=[1,2,5]
def fG:=[1,2,15,16,17]
def JF:=[0,1,6]
def JG:=[0,1,4]
def Wa:=[7,8]
def nr:=[2,5,6,7,9,26,27,28]
def fH:=[0,1,32,33,34]
def nt:=[10,30000,37006,9100005]
def fI:=[1,3,7,9,5005]
def fJ:=[3,5,14,15,16]
def nu:=[1,2,4,7,8,10,11,12]
def JH:=[1,2,3]
def nv:=[6008,30000,35000,37001]
def nw:=[4,8,30000,35000,37001]
def ZA:=[2,5,6,25]
def ny:=[2,5,6,7,8,9,10,60]
def nz:=[4,30000,37006,9100005]
def ZB:=[(20000,10)]
def n3:=[2,6,9,43,5602,30000]
def ZC:=[2,4,6,10]
def ZD:=[2,4,7,10]
def ZE:=[0,1,9,10]
def fL:=[0,3,4,14,15]
def fM:=[0,4,6,21,22]
def n4:=[1,2,4,10,11,12,13]
def ZF:=[1,2,4,5]
def ZG:=[0,2,7,8]
def fN:=[(34001,34001)]
def JI:=[18,19]
def fO:=[0,2,4,6,56]
def ZH:=[0,1,4,5]
def n5:=[8,30000,35000,37001]
def n6:=[9,5007,30000,37007]
def RO:=[5,6,7]
def fP:=[1,23,24,25]
def fQ:=[(6004,20000)]
def fR:=[3,38,39,40]
def fS:=[0,1,7,8,9]
def fT:=[0,1,5,7,8]
def fU:=[(6002,20000)]
def fV:=[0,1,2,3,4]
def fW:=[0,1,12,13]
def fX:=[0,6,21,22]
def fY:=[2,43,30000]
def fZ:=[(30,20000)]
def fa:=[(7,20000)]
def fb:=[(5,30000)]
set_option maxRecDepth 100000
set_option maxHeartbeats 2000000
def Ao(x:Int):List AV:=[(.int .i64 x)]
def Js(x:Ad):List AV:=[(AV.list 1 Ao 0 x .none)]
structure Bb where
 Bits:Int
 Dst:Int
 From:Ad
 Args:Ad
 deriving Inhabited,DecidableEq
def Fz(x:Bb):List AV:=[(.int .i64 x.Bits),(.int .i64 x.Dst),(AV.list 1 Ao 0 x.From .none),(AV.list 1 Ao 0 x.Args .none)]
def Cz(x:Int):List AV:=[(.int .u64 x)]
structure A6 where
 Kind:Int
 Bits:Int
 Lanes:Int
 Dst:Int
 Args:Ad
 Imm:Int
 deriving Inhabited,DecidableEq
def Io(x:A6):List AV:=[(.int .i64 x.Kind),(.int .i64 x.Bits),(.int .i64 x.Lanes),(.int .i64 x.Dst),(AV.list 1 Ao 0 x.Args .none),(.int .u64 x.Imm)]
structure Eo where
 Kind:Int
 Arg:Int
 To:Ad
 deriving Inhabited,DecidableEq
def f8(x:Eo):List AV:=[(.int .i64 x.Kind),(.int .i64 x.Arg),(AV.list 1 Ao 0 x.To .none)]
structure Ab where
 Phis:List Bb
 Ops:List A6
 End:Eo
 deriving Inhabited,DecidableEq
def Bf(x:Ab):List AV:=[(AV.list 4 Fz default x.Phis .none),(AV.list 6 Io default x.Ops .none),(.int .i64 x.End.Kind),(.int .i64 x.End.Arg),(AV.list 1 Ao 0 x.End.To .none)]
structure Aa where
 Params:Ad
 Ret:Int
 Blocks:List Ab
 deriving Inhabited,DecidableEq
def th(x:Aa):List AV:=[(AV.list 1 Ao 0 x.Params .none),(.int .i64 x.Ret),(AV.list 5 Bf default x.Blocks .none)]
structure THammock where
 At:Int
 Then:Int
 Else:Int
 Join:Int
 deriving Inhabited,DecidableEq
def Cq(x:THammock):List AV:=[(.int .i64 x.At),(.int .i64 x.Then),(.int .i64 x.Else),(.int .i64 x.Join)]
abbrev G2:=(Int×Int)
def B2(x:G2):List AV:=[(.int .i64 x.1),(.int .i64 x.2)]
structure Ix where
 block:Int
 at_:Int
 deriving Inhabited,DecidableEq
def MR(x:Ix):List AV:=[(.int .i64 x.block),(.int .i64 x.at_)]
structure Bd where
 v:Int
 shape:G2
 place:Ix
 deriving Inhabited,DecidableEq
def Lg(x:Bd):List AV:=[(.int .i64 x.v),(.int .i64 x.shape.1),(.int .i64 x.shape.2),(.int .i64 x.place.block),(.int .i64 x.place.at_)]
structure C5 where
 Succ:Fl
 Pred:Fl
 deriving Inhabited,DecidableEq
def Sn(x:C5):List AV:=[(AV.list 1 Js [] x.Succ .none),(AV.list 1 Js [] x.Pred .none)]
def eB(x:Bool):List AV:=[(.bool x)]
structure Aw where
 shape:G2
 place:Ix
 deriving Inhabited,DecidableEq
def f9(x:Aw):List AV:=[(.int .i64 x.shape.1),(.int .i64 x.shape.2),(.int .i64 x.place.block),(.int .i64 x.place.at_)]
structure Na where
 f:Aa
 h:THammock
 ops:List A6
 last:Int
 deriving Inhabited,DecidableEq
structure M3 where
 V:Int
 Block:Int
 At:Int
 Shape:G2
 deriving Inhabited,DecidableEq
structure Xo where
 V:Int
 Block:Int
 At:Int
 Shape:G2
 deriving Inhabited,DecidableEq
def T9(x:Int):List AV:=[(.int .u8 x)]
structure An where
 Write:Bool
 At:Int
 Byte:Int
 deriving Inhabited,DecidableEq
def I5(x:An):List AV:=[(.bool x.Write),(.int .u64 x.At),(.int .u8 x.Byte)]
structure s4 where
 bytes:Ad
 trace:List An
 deriving Inhabited,DecidableEq
structure SC where
 Code:Int
 Value:Int
 Steps:Int
 deriving Inhabited,DecidableEq
def NX(x:SC):List AV:=[(.int .i64 x.Code),(.int .u64 x.Value),(.int .i64 x.Steps)]
def C9(x:Ad):List AV:=[(AV.list 1 Cz 0 x .none)]
def eA2U8(x:G2):List AV:=[(.int .u8 x.1),(.int .u8 x.2)]
abbrev wX:=(Int×AV)
def Ty:List wX:=[((0:Int),(.clo 93 [] [])),((13:Int),(.clo 94 [(.ptr 30000 0)] [])),((14:Int),(.clo 157 [] [(.rpo [(.clo 96 [] [])]),(.rpo [(.ptr 30000 0)])])),((15:Int),(.clo 157 [] [(.rpo [(.clo 97 [] [])]),(.rpo [(.ptr 30000 0)])])),((16:Int),(.clo 98 [(.ptr 30000 0)] [])),((17:Int),(.clo 99 [(.ptr 30000 0)] [])),((18:Int),(.clo 160 [] [(.rpo [(.ptr 30000 0)]),(.rpo [(.clo 98 [(.ptr 30000 0)] [])])])),((19:Int),(.clo 160 [] [(.rpo [(.ptr 30000 0)]),(.rpo [(.clo 99 [(.ptr 30000 0)] [])])])),((20:Int),(.clo 160 [] [(.rpo [(.ptr 30000 0)]),(.rpo [(.clo 161 [] [(.rpo [(.ptr 30000 0)]),(.rpo [(.int .i64 (4:Int))])])])])),((21:Int),(.clo 102 [(.ptr 30000 0)] [])),((22:Int),(.clo 103 [(.ptr 30000 0)] [])),((1:Int),(.clo 161 [] [(.rpo [(.ptr 30000 0)]),(.rpo [(.int .i64 (1:Int))])])),((2:Int),(.clo 161 [] [(.rpo [(.ptr 30000 0)]),(.rpo [(.int .i64 (2:Int))])])),((3:Int),(.clo 161 [] [(.rpo [(.ptr 30000 0)]),(.rpo [(.int .i64 (3:Int))])])),((4:Int),(.clo 161 [] [(.rpo [(.ptr 30000 0)]),(.rpo [(.int .i64 (4:Int))])])),((5:Int),(.clo 161 [] [(.rpo [(.ptr 30000 0)]),(.rpo [(.int .i64 (5:Int))])])),((6:Int),(.clo 161 [] [(.rpo [(.ptr 30000 0)]),(.rpo [(.int .i64 (6:Int))])])),((7:Int),(.clo 161 [] [(.rpo [(.ptr 30000 0)]),(.rpo [(.int .i64 (7:Int))])])),((8:Int),(.clo 161 [] [(.rpo [(.ptr 30000 0)]),(.rpo [(.int .i64 (8:Int))])])),((9:Int),(.clo 161 [] [(.rpo [(.ptr 30000 0)]),(.rpo [(.int .i64 (9:Int))])])),((10:Int),(.clo 161 [] [(.rpo [(.ptr 30000 0)]),(.rpo [(.int .i64 (10:Int))])])),((11:Int),(.clo 161 [] [(.rpo [(.ptr 30000 0)]),(.rpo [(.int .i64 (11:Int))])])),((12:Int),(.clo 161 [] [(.rpo [(.ptr 30000 0)]),(.rpo [(.int .i64 (12:Int))])]))]
theorem mix:Tryz.prog.follows .mixedOrders=true:=by kernel_rfl
abbrev sP:=Spec Tryz.prog
abbrev U8:=(Nat×Own)
theorem sG {f : FuncId} {fn : Func} {args : List AV} {H H' : List U8} {res : AV} (hf : Tryz.prog.funcs[f]? = some fn) (k : ∀ Γ : G8, RgQ Tryz.prog Γ fn.ntmps H → GG Tryz.prog Γ (fK Tryz.prog Γ fn.results.toList H res H') (r8 (WU fn) []) (HG args H)) (hb : fn.body.isSome = true := by kernel_rfl) (hname : (fn.name == "runtime.NumGoroutine") = false := by kernel_rfl) (hlen : Nat.ble args.length fn.ntmps = true := by kernel_rfl) (hpl : PI H = true := by kernel_rfl) : sP f args H res H' := Uz mix hf k hb hname hlen hpl
def Dw:List Ab:=([(⟨([]:List Bb),([]:List A6),(⟨(2:Int),(1:Int),([(1:Int),(2:Int)]:Ad)⟩:Eo)⟩:Ab),(⟨([]:List Bb),([(⟨(0:Int),(8:Int),(1:Int),(2:Int),([]:Ad),(1:Int)⟩:A6)]:List A6),(⟨(1:Int),(0:Int),([(3:Int)]:Ad)⟩:Eo)⟩:Ab),(⟨([]:List Bb),([(⟨(0:Int),(8:Int),(1:Int),(3:Int),([]:Ad),(2:Int)⟩:A6)]:List A6),(⟨(1:Int),(0:Int),([(3:Int)]:Ad)⟩:Eo)⟩:Ab),(⟨([(⟨(8:Int),(4:Int),([(1:Int),(2:Int)]:Ad),([(2:Int),(3:Int)]:Ad)⟩:Bb)]:List Bb),([]:List A6),(⟨(0:Int),(4:Int),([]:Ad)⟩:Eo)⟩:Ab)]:List Ab)
def Z1:=λ(za:List (List (Int))) zb zc (zd:Ad) zf zg=>([(30000,.row 118 [(.ptr 30001 0),(.omap 9100001),(.vsl 35002 za.length),(.int .i64 zb),(.int .i64 zc)]),(30001,.row 113 [(.vsl 35100 zd.length),(AV.list 3 I5 default zf (.own 37101))]),(37101,.tok 3 239 zg),(35002,.arr 1 64 za.length (λi=>C9 (za.getD i []))),(35100,.arr 1 5 zd.length (λi=>T9 (zd.getD i 0))),(9100001,.obj (.tab .i64 Ty))]:List U8)
def Z2:=λza zb zc zd zf zg zm=>((30000,.row 105 [(AV.list 1 Ao 0 za .none),(.int .i64 zb),(AV.list 5 Bf default zc .none),(.int .i64 zd),(AV.list 1 Ao 0 zf .none),(.omap zg),(AV.list 5 Lg default zm (.own 37006))]):Nat×Own)
def Z3:=λza zb zc zd zf zg zm zn zp=>([(AV.list 1 Ao 0 za .none),(.int .i64 zb),(AV.list 5 Bf default zc .none),(.int .i64 zd),(.int .i64 zf),(.int .i64 zg),(.int .i64 zm),(AV.list 6 Io default zn (.own 37007)),(.int .i64 zp)]:List AV)
def Z4:=λza zb zc zd zf zg zm=>([(30000,.row 105 [(AV.list 1 Ao 0 za .none),(.int .i64 zb),(AV.list 5 Bf default zc .none),(.int .i64 zd),(AV.list 1 Ao 0 zf .none),.nilm,(AV.list 5 Lg default zg (.own 37006))]),(37006,.tok 5 198 zm)]:List U8)
def Z5:=λza zb zc zd zf zg zm zn zp zq zt zv=>(⟨[(30000,30000),(30001,30001),(37101,37101),(35002,35002),(35100,35100),(9100001,9100001)],[(20000,31)],(.tuple [(AV.list 1 Cz 0 za (.own 20000)),(.int .i64 zb)]),[(30000,.row 118 [(.ptr 30001 0),(.omap 9100001),zc,(.int .i64 zd),zf]),(30001,.row 113 zg),(37101,.tok 3 239 zm),(35002,.arr 1 64 zn zp),(35100,.arr 1 5 zq zt),(9100001,.obj (.tab .i64 Ty)),(20000,.tok 1 49 zv)],[],[30000,30001,37101,35002,35100,9100001]⟩:M9)
def Z6:=λ(za:List (List (Int))) zb zc (zd:Ad) zf zg=>([(30000,.row 118 [(.ptr 30001 0),.nilm,(.vsl 35002 za.length),(.int .i64 zb),(.int .i64 zc)]),(30001,.row 113 [(.vsl 35100 zd.length),(AV.list 3 I5 default zf (.own 37101))]),(37101,.tok 3 239 zg),(35002,.arr 1 64 za.length (λi=>C9 (za.getD i []))),(35100,.arr 1 5 zd.length (λi=>T9 (zd.getD i 0)))]:List U8)
def Z7:=λ(za:Ad) zb zc=>([(30000,.row 113 [(.vsl 35000 za.length),(AV.list 3 I5 default zb (.own 37001))]),(37001,.tok 3 239 zc),(35000,.arr 1 5 za.length (λi=>T9 (za.getD i 0)))]:List U8)
def Z8:=λ(za:List (List (Int))) zb zc (zd:Ad) zf zg zm=>([(30000,.row 118 [(.ptr 30001 0),(.omap 9100001),(.vsl 35002 za.length),(.int .i64 zb),(.int .i64 zc)]),(30001,.row 113 [(.vsl 35100 zd.length),(AV.list 3 I5 default zf (.own 37101))]),(37101,.tok 3 239 zg),(35002,.arr 1 64 za.length (λi=>C9 (za.getD i []))),(35100,.arr 1 5 zd.length (λi=>T9 (zd.getD i 0))),(9100001,.obj (.tab .i64 Ty)),(20000,.tok 1 49 zm)]:List U8)
def Z9:=λza=>(⟨[],[],(.bool za),[],[],[]⟩:M9)
def Aq:=λza=>((.int .i64 za):AV)
def TI:=λza zb zc=>([(.ptr 30001 0),(.omap 9100001),(.vsl 35002 za),(Aq zb),(Aq zc)]:List AV)
def Tb:=λza (zb:Ad)=>((za,.arr 1 3 zb.length (λi=>Ao (zb.getD i 0))):Nat×Own)
def kn:=λza zb (zc:Ad) zd zf zg=>([(za,.row 113 [(.vsl zb zc.length),(AV.list 3 I5 default zd (.own zf))]),(zb,.arr 1 5 zc.length (λi=>T9 (zc.getD i 0))),(zf,.tok 3 239 zg)]:List U8)
def MH:=λza zb zc zd=>([(.vsl za zb),(AV.list 3 I5 default zc (.own zd))]:List AV)
def Lo:=λza=>((AV.list 1 Ao 0 za .none):AV)
def pU:=λza=>((AV.list 2 B2 ((0:Int),(0:Int)) za .none):AV)
def GW:=λza=>((AV.list 5 Bf default za .none):AV)
def xA:=λ(za:List (List (Int))) zb zc (zd:Ad) zf zg=>([(30000,.row 118 (TI za.length zb zc)),(30001,.row 113 (MH 35100 zd.length zf 37101)),(35002,.arr 1 64 za.length (λi=>C9 (za.getD i []))),(35100,.arr 1 5 zd.length (λi=>T9 (zd.getD i 0))),(37101,.tok 3 239 zg),(9100001,.obj (.tab .i64 Ty))]:List U8)
def vd:=λza zb zc zd zf zg zm=>(⟨[(30000,30000),(30001,30001),(37101,37101),(35002,35002),(35100,35100),(9100001,9100001)],[],(.int .u64 za),(Z1 zb zc zd zf zg zm),[],[30000,30001,37101,35002,35100,9100001]⟩:M9)
def In:=((.int .i64 (0:Int)):AV)
def ve:=λza zb zc zd zf zg zm zn=>([(Z2 za zb zc zd zf 9100005 zg),(37006,.tok 5 198 zm),(9100005,.obj (.map false .i64 zn))]:List U8)
def RU:=λza (zb:Ad)=>((za,.arr 1 5 zb.length (λi=>T9 (zb.getD i 0))):Nat×Own)
def MI:=λza zb zc zd zf zg zm zn zp zq=>([(30000,.row 71 (Z3 za zb zc zd zf zg zm zn zp)),(37007,.tok 6 51 zq)]:List U8)
def JK:=λza=>((AV.list 1 Js [] za .none):AV)
def WL:=λza (zb:List (List (Int)))=>((za,.arr 1 64 zb.length (λi=>C9 (zb.getD i []))):Nat×Own)
def ud:=λza zb=>(⟨[(30000,30000),(30001,30001),(37101,37101),(35002,35002),(35100,35100),(9100001,9100001)],[],(.agg (NX za)),zb,[],[30000,30001,37101,35002,35100,9100001]⟩:M9)
def Od:=λza=>((.int .i64 (za:Int)):AV)
def WM:=((AV.list 1 Cz 0 ([]:Ad) .exact):AV)
def fi:=λza zb=>((AV.list 1 Cz 0 za (.own zb)):AV)
def SD:=((.slice 0 0 (λ_=>[]) .exact):AV)
def WN:=λza zb zc zd zf zg zm=>([(Z2 za zb zc zd zf 9100005 zg),(37006,.tok 5 198 zm)]:List U8)
def M4:=λza=>((.int .u64 za):AV)
def TJ:=λza=>((AV.list 6 Io default za .none):AV)
def pV:=λza zb=>([(10,.arr 1 22 za (P7 1 Ao (0:Int) zb (Tag.fam 70010)))]:List U8)
def xB:=λza (zb:Ad) (zc:Ad)=>((.slice 1 (bif za then zb.length else zc.length) (λi=>bif za then Ao (zb.getD i 0) else Ao (zc.getD i 0)) .none):AV)
def ri:=λza zb zc=>((.clo 133 [] [(.rpo [(GW za)]),(.rpo [(JK zb)]),(.rpo [(Aq zc)])]):AV)
def MJ:=λza=>(⟨[],[],(Aq za),[],[],[]⟩:M9)
def ue:=λ(za:Ad)=>((.slice 1 (za.length-(1:Int).toNat) (λi=>Ao (za.getD ((1:Int).toNat+i) 0)) .none):AV)
def Ve:=λza=>((.agg (f9 za)):AV)
def vf:=λza zb zc zd zf zg=>((30000,.row 105 [(Lo za),(Aq zb),(GW zc),(Aq zd),(Lo zf),(.omap 8),(AV.list 5 Lg default zg (.own 37006))]):Nat×Own)
def xn:=λza zb zc=>(⟨[(30000,30000),(30001,30001),(37101,37101),(35002,35002),(35100,35100)],[],(.clo 161 [] [(.rpo za),(.rpo [(Od zb)])]),zc,[],[30000,30001,37101,35002,35100]⟩:M9)
def WO:=λza zb=>((AV.list 1 Ao 0 za (.own zb)):AV)
def xC:=λza zb zc zd zf zg zm zn zp zq=>(⟨[(30000,30000),(30001,30001),(37101,37101),(35002,35002),(35100,35100),(9100001,9100001)],[(20000,za)],(.tuple [(fi zb 20000),(Aq zc)]),(Z8 zd zf zg zm zn zp zq),[],[]⟩:M9)
def kr:=λza (zb:Ad)=>((za,.arr 1 49 zb.length (λi=>Cz (zb.getD i 0))):Nat×Own)
def TK:=λza=>(⟨[],[],(M4 za),[],[],[]⟩:M9)
def ij:=λza zb=>([(30000,.row 71 za),(37007,.tok 6 51 zb)]:List U8)
def CZ:=([(.ptr 30000 0)]:List AV)
def vh:=λza zb zc zd zf zg zm zn=>(⟨[(30000,30000),(37006,37006),(9100005,9100005)],[],(.tuple []),(ve za zb zc zd zf zg zm zn),[],[]⟩:M9)
def ks:=((AV.list 1 Ao 0 ([]:Ad) .exact):AV)
def xo:=λza zb zc zd zf zg zm=>(⟨[(30000,30000),(30001,30001),(37101,37101),(35002,35002),(35100,35100),(9100001,9100001)],[],(.bool za),(Z1 zb zc zd zf zg zm),[],[30000,30001,37101,35002,35100,9100001]⟩:M9)
def NJ:=((.int .i64 (8:Int)):AV)
def AG:=((2,(.ptr 2 0)):Nat×AV)
def xp:=λza (zb:List Bd) (zc:List Bd)=>((.slice 5 (bif za then zb.length else zc.length) (λi=>bif za then Lg (zb.getD i default) else Lg (zc.getD i default)) (.own 37006)):AV)
abbrev ju:=(Nat×AV)
def xq:=λza zb=>([(66,(AV.list 4 Cq default ([za]:List THammock) .exact)),(67,(AV.list 4 Cq default (zb++([za]:List THammock)) (.own 5005)))]:List ju)
def TL:=λza zb zc=>((30000,.row 118 (TI za zb zc)):Nat×Own)
def pW:=λza=>((AV.list 1 Ao 0 ([za]:Ad) .exact):AV)
def RV:=λza=>((.agg (th za)):AV)
def ik:=λza=>(⟨[],[],(pU za),[],[],[]⟩:M9)
def rj:=λza zb=>((.agg (f9 (Fu (default:Aw) za zb))):AV)
def uf:=λza zb zc=>(⟨[],[],(.tuple [(Aq za),(Aq zb),(.bool zc)]),[],[],[]⟩:M9)
def SE:=((.int .i64 (4:Int)):AV)
def oI:=λza zb=>((AV.list 4 Cq default za (.own zb)):AV)
def oJ:=λza zb=>((AV.list 6 Io default za (.own zb)):AV)
def j7:=λza=>((za,.obj (.tab .i64 Ty)):Nat×Own)
def dO:=λza=>((AV.list 1 Cz 0 za .none):AV)
def LH:=((4,(.ptr 4 0)):Nat×AV)
def ug:=((AV.list 6 Io default ([]:List A6) .exact):AV)
def xr:=λza zb=>(⟨[(30000,30000),(30001,30001),(37101,37101),(35002,35002),(35100,35100),(9100001,9100001)],[],(.bool za),zb,[],[]⟩:M9)
def xD:=((AV.list 2 B2 ((0:Int),(0:Int)) ([]:List G2) .exact):AV)
def EM:=λza=>((.agg (Io za)):AV)
def yW:=λza zb zc=>(⟨[(30000,30000),(30001,30001),(37101,37101),(35002,35002),(35100,35100)],[],(.clo 160 [] [(.rpo za),(.rpo [(.clo zb za [])])]),zc,[],[30000,30001,37101,35002,35100]⟩:M9)
def yX:=λza zb zc zd zf zg zm zn zp=>(⟨[(4,(AV.list 1 Cz 0 ([]:Ad) (.own 6004))),(5,(Aq za))],[(6004,.tok 1 49 (([]:Ad).length)),(TL zb zc zd),(30001,.row 113 (MH 35100 zf zg 37101)),(WL 35002 zm),(RU 35100 zn),(37101,.tok 3 239 zp),(j7 9100001)],[]⟩:St)
def ZI:=((.int .i64 (2:Int)):AV)
def yY:=λza zb=>(⟨[(30000,30000),(30001,30001),(37101,37101),(35002,35002),(35100,35100),(9100001,9100001)],[],(M4 za),zb,[],[30000,30001,37101,35002,35100,9100001]⟩:M9)
def vi:=((AV.list 4 Fz default ([]:List Bb) .exact):AV)
def rl:=λza=>((AV.list 4 Fz default za .none):AV)
def ZT:=((.int .i64 (1:Int)):AV)
def yZ:=λza zb=>(⟨[(30000,30000),(30001,30001),(37101,37101),(35002,35002),(35100,35100),(9100001,9100001)],[],(Aq za),zb,[],[30000,30001,37101,35002,35100,9100001]⟩:M9)
def ya:=λza (zb:List Ab) (zc:List Ab)=>((.slice 5 (bif za then zb.length else zc.length) (λi=>bif za then Bf (zb.getD i default) else Bf (zc.getD i default)) .none):AV)
def xu:=λza zb zc zd zf=>([(30000,.row 113 (MH 35000 za zb 37001)),(37001,.tok 3 239 zc),(RU 35000 zd),(20000,.tok 1 49 zf)]:List U8)
def yb:=λza zb zc=>(⟨[(30000,30000),(30001,30001),(37101,37101),(35002,35002),(35100,35100),(9100001,9100001)],[],(.tuple [(dO za),(Aq zb)]),zc,[],[30000,30001,37101,35002,35100,9100001]⟩:M9)
def yc:=λza zb zc=>(⟨[(30000,30000),(30001,30001),(37101,37101),(35002,35002),(35100,35100)],[],(.clo 157 [] [(.rpo [(.clo za [] [])]),(.rpo zb)]),zc,[],[30000,30001,37101,35002,35100]⟩:M9)
def tD:=((.slice 0 0 (λ_=>[]) .none):AV)
def tE:=λza zb zc=>((2,.row 25 [(Lo za),(Aq zb),(GW zc)]):Nat×Own)
def xE:=λza zb zc=>(⟨[],[(20000,za)],(fi zb 20000),[(20000,.tok 1 49 zc)],[],[]⟩:M9)
def fj:=λza=>((.agg (Cq za)):AV)
def oK:=λza=>([(.ptr 30000 0),(Aq za)]:List AV)
def vj:=λ(za:Ad)=>((6,.arr 1 213 64 (λi=>Ao (za.getD i 0))):Nat×Own)
def yd:=λza zb=>(⟨[(30000,30000),(30001,30001),(37101,37101),(35002,35002),(35100,35100)],[],(.clo 161 [] [(.rpo za),(.rpo [SE])]),zb,[],[30000,30001,37101,35002,35100]⟩:M9)
def fk:=λza zb=>([(fi za 20000),(Aq zb)]:List AV)
def xF:=λza zb zc=>(⟨[],[(20000,za)],(WO zb 20000),[(20000,.tok 1 3 zc)],[],[]⟩:M9)
def pX:=λza=>([(30000,.row 3 [(Aq za)])]:List U8)
def xw:=λza zb zc zd zf zg zm zn zp=>(⟨[(30000,30000),(37006,37006),(9100005,9100005)],[],(.agg (MR za)),(ve zb zc zd zf zg zm zn zp),[],[]⟩:M9)
def ye:=((AV.list 4 Fz default ([(⟨(8:Int),(4:Int),([(1:Int),(2:Int)]:Ad),([(2:Int),(3:Int)]:Ad)⟩:Bb)]:List Bb) .exact):AV)
def pY:=λza=>((AV.list 1 Ao 0 za .exact):AV)
def yf:=λza (zb:Ad) (zc:Ad)=>((.slice 1 (bif (za==true) then zb.length else zc.length) (λi=>bif (za==true) then Ao (zb.getD i 0) else Ao (zc.getD i 0)) .none):AV)
def fl:=((0,(.ptr 30000 0)):Nat×AV)
def xx:=λza=>((za,.arr 1 3 (([]:Ad).length) (λi=>Ao (([]:Ad).getD i 0))):Nat×Own)
def xG:=λza zb zc zd zf zg zm zn=>(⟨[(30000,30000),(37006,37006)],[],(.bool za),(Z4 zb zc zd zf zg zm zn),[],[]⟩:M9)
def NG:=((6,(.vpt 6 64 0 0)):Nat×AV)
def s5:=λ(za:List G2)=>([(30,.arr 2 88 za.length (λi=>B2 (za.getD i ((0:Int),(0:Int)))))]:List U8)
def kd:=λza=>((AV.list 1 Cz 0 ([za]:Ad) .exact):AV)
def LE:=((.int .i64 (3:Int)):AV)
def NH:=((5,(.vpt 5 64 0 0)):Nat×AV)
def vW:=λza zb=>(⟨[(30000,30000),(30001,30001),(37101,37101),(35002,35002),(35100,35100),(9100001,9100001)],[],(Aq za),zb,[],[]⟩:M9)
def ZS:=λza zb zc=>((.int .i64 (bif za then zb else zc)):AV)
def kg:=λza zb zc=>((AV.list 1 Ao 0 ([za,zb,zc]:Ad) .exact):AV)
def s6:=λza zb zc zd zf zg zm zn zp=>(⟨[(30000,30000),(37006,37006),(9100005,9100005)],[],(.bool za),(ve zb zc zd zf zg zm zn zp),[],[]⟩:M9)
def BJ:=λza zb zc zd zf=>((za,.row 113 (MH zb zc zd zf)):Nat×Own)
def pO:=((AV.list 1 Ao 0 ([(1:Int)]:Ad) .exact):AV)
def Gy:=λza zb zc=>((za,.tok 5 zb zc):Nat×Own)
def LF:=λza=>((6,.arr 1 213 64 za):Nat×Own)
def pP:=λza zb zc zd zf zg zm zn zp zq zt=>(⟨[(30000,30000),(37007,37007)],[],(Aq za),(MI zb zc zd zf zg zm zn zp zq zt),[],[]⟩:M9)
def Db:=λza zb=>((za,(Aq zb)):Nat×AV)
def vX:=λza zb zc zd zf zg=>(⟨[(30000,30000),(30001,30001),(37101,37101),(35002,35002),(35100,35100),(9100001,9100001)],[],(.tuple []),(Z1 za zb zc zd zf zg),[],[]⟩:M9)
def dN:=λza=>(⟨[],[],(RV za),[],[],[]⟩:M9)
def pQ:=λza zb zc=>(⟨[(30000,30000),(za,za)],[],(Aq zb),zc,[],[]⟩:M9)
def X9:=λza zb=>([(M4 za),(M4 zb)]:List AV)
def kh:=λza zb zc zd zf zg=>([(Aq za),(Aq zb),(Aq zc),(Aq zd),(Lo zf),(M4 zg)]:List AV)
def Tc:=λza zb=>((za,.tok 3 239 zb):Nat×Own)
def ii:=λza zb=>((AV.list 4 Fz default za (.own zb)):AV)
def Sb:=λza=>((.clo za [] []):AV)
def kj:=λza=>(⟨[],[],(.agg (B2 za)),[],[],[]⟩:M9)
def Vd:=λza zb=>([(7,(.vsl za zb))]:List ju)
def s7:=λza zb zc zd zf zg zm zn zp=>([(30000,.row 71 [(Lo za),(Aq zb),(GW zc),(Aq zd),(Aq zf),(Aq zg),(Aq zm),(TJ zn),(Aq zp)])]:List U8)
def vY:=λza zb zc zd zf zg zm zn=>(⟨[(30000,30000),(30001,30001),(37101,37101),(35002,35002),(35100,35100),(9100001,9100001)],[],(.tuple [(dO za),(Aq zb)]),(Z1 zc zd zf zg zm zn),[],[]⟩:M9)
def s8:=λza=>((.slice 1 1 (λi=>([[(Aq za)]]:List (List AV)).getD i []) .exact):AV)
def NI:=λza=>((5,.arr 1 212 64 za):Nat×Own)
def kl:=λza=>((.clo 122 [] [(.rptr (Cq za))]):AV)
def vZ:=λza zb zc zd=>([(za,(AV.list 6 Io default zb .exact)),(zc,(AV.list 6 Io default (zd++zb) (.own 37007)))]:List ju)
def pR:=λza zb=>(⟨[],[],(.tuple [(RV za),(Aq zb)]),[],[],[]⟩:M9)
def GY:=((5,(.ptr 5 0)):Nat×AV)
def va:=λza zb=>([(29,(AV.list 3 I5 default za .exact)),(30,(AV.list 3 I5 default (zb++za) (.own 37001)))]:List ju)
def WK:=((.int .i64 (5:Int)):AV)
def EL:=((6,(.ptr 6 0)):Nat×AV)
def kp:=λza zb zc=>(⟨[(4,(WO za zb))],[(zb,.tok 1 3 zc)],[]⟩:St)
def pS:=λza=>((.clo 161 [] [(.rpo CZ),(.rpo [(Aq za)])]):AV)
def Z138:=(⟨[(4,(AV.list 1 Ao 0 ([]:Ad) (.own 6004)))],[(6004,.tok 1 3 (([]:Ad).length))],[]⟩:St)
def s9:=((AV.list 5 Bf default ([]:List Ab) .exact):AV)
def Td:=λza zb=>((za,.tok 6 51 zb):Nat×Own)
def F3:=λza=>((.ptr za 0):AV)
def kq:=λza zb zc=>(⟨[(4,(.vsl za zb))],[(Tb za zc)],[]⟩:St)
def vb:=λza zb zc zd zf=>(⟨[(48,30000),(60048001,37001),(60048000,35000)],[],(.tuple [(.agg (NX za)),(Aq zb)]),(Z7 zc zd zf),[],[]⟩:M9)
def tA:=λza zb zc=>((6,.row 25 [za,(Aq zb),(AV.list 5 Bf default zc (.own 5602))]):Nat×Own)
def pT:=λza zb=>((AV.list 1 Ao 0 ([za,zb]:Ad) .exact):AV)
def LG:=((3,(.ptr 3 0)):Nat×AV)

def Q8:AV:=In
def dF:AV:=ZT
def rY:AV:=SD
def Q5:AV:=ks
def wu:AV:=ug
def Q7:AV:=vi
def Q4:AV:=(AV.list 1 Ao 0 ([(3:Int)]:Ad) .exact)
def Q6:AV:=(AV.list 1 Ao 0 ([(1:Int),(2:Int)]:Ad) .exact)
def Q2:AV:=(AV.list 6 Io default ([(⟨(0:Int),(8:Int),(1:Int),(2:Int),([]:Ad),(1:Int)⟩:A6)]:List A6) .exact)
def Q3:AV:=(AV.list 6 Io default ([(⟨(0:Int),(8:Int),(1:Int),(3:Int),([]:Ad),(2:Int)⟩:A6)]:List A6) .exact)
def Q1:AV:=ye
def Q9:=(⟨[(0,(.ptr 0 0))],[(0,.row 25 [pO,NJ,(AV.list 5 Bf default Dw .exact)])],[]⟩:St)
def m_locksteplaw15_diamond :Option Aa:=
 (some (⟨([(1:Int)]:Ad),(8:Int),Dw⟩:Aa))
theorem Fv  (r:Aa) (h:m_locksteplaw15_diamond=some r):sP 22 [] [] (RV r) []:=
 sG Tryz.func22 λΓ q=>Ag q [0] [0] (gR q [0] [0] [(1,pO),(2,Q6),(4,(.agg [Q7,wu,ZI,dF,Q6])),(5,(.agg [Q8,NJ,dF,ZI,Q5,(.int .u64 (1:Int))])),(6,Q2),(7,Q4),(9,(.agg [Q7,Q2,dF,Q8,Q4])),(10,(.agg [Q8,NJ,dF,LE,Q5,(.int .u64 (2:Int))])),(11,Q3),(12,Q4),(14,(.agg [Q7,Q3,dF,Q8,Q4])),(15,Q6),(16,(AV.list 1 Ao 0 ([(2:Int),(3:Int)]:Ad) .exact)),(18,Q1),(19,(.agg [Q8,SE,Q5])),(20,(.agg [Q1,wu,Q8,SE,Q5])),(21,(AV.list 5 Bf default Dw .exact))] [] (yB (A0 1 Ao (0:Int) ([(1:Int)]:Ad)) (A0 1 Ao (0:Int) ([(1:Int),(2:Int)]:Ad)) (show(AVle (.agg [rY,rY,ZI,dF,Q6]) (.agg [Q7,wu,ZI,dF,Q6])) from(AVle.agg (.cons C6 (.cons C6 (.cons (AVle.refl _) (.cons (AVle.refl _) (.cons (AVle.refl _) .nil))))))) (show(AVle (.agg [Q8,NJ,dF,ZI,rY,(.int .u64 (1:Int))]) (.agg [Q8,NJ,dF,ZI,Q5,(.int .u64 (1:Int))])) from(AVle.agg (.cons (AVle.refl _) (.cons (AVle.refl _) (.cons (AVle.refl _) (.cons (AVle.refl _) (.cons C6 (.cons (AVle.refl _) .nil)))))))) (A0 6 Io (default:A6) ([(⟨(0:Int),(8:Int),(1:Int),(2:Int),([]:Ad),(1:Int)⟩:A6)]:List A6)) (A0 1 Ao (0:Int) ([(3:Int)]:Ad)) (show(AVle (.agg [rY,Q2,dF,Q8,Q4]) (.agg [Q7,Q2,dF,Q8,Q4])) from(AVle.agg (.cons C6 (.cons (AVle.refl _) (.cons (AVle.refl _) (.cons (AVle.refl _) (.cons (AVle.refl _) .nil))))))) (show(AVle (.agg [Q8,NJ,dF,LE,rY,(.int .u64 (2:Int))]) (.agg [Q8,NJ,dF,LE,Q5,(.int .u64 (2:Int))])) from(AVle.agg (.cons (AVle.refl _) (.cons (AVle.refl _) (.cons (AVle.refl _) (.cons (AVle.refl _) (.cons C6 (.cons (AVle.refl _) .nil)))))))) (A0 6 Io (default:A6) ([(⟨(0:Int),(8:Int),(1:Int),(3:Int),([]:Ad),(2:Int)⟩:A6)]:List A6)) (c8 (A0 1 Ao (0:Int) ([(3:Int)]:Ad)) (show(AVle (.agg [rY,Q3,dF,Q8,Q4]) (.agg [Q7,Q3,dF,Q8,Q4])) from(AVle.agg (.cons C6 (.cons (AVle.refl _) (.cons (AVle.refl _) (.cons (AVle.refl _) (.cons (AVle.refl _) .nil))))))) (A0 1 Ao (0:Int) ([(1:Int),(2:Int)]:Ad)) (A0 1 Ao (0:Int) ([(2:Int),(3:Int)]:Ad)) (A0 4 Fz (default:Bb) ([(⟨(8:Int),(4:Int),([(1:Int),(2:Int)]:Ad),([(2:Int),(3:Int)]:Ad)⟩:Bb)]:List Bb)) (show(AVle (.agg [Q8,SE,rY]) (.agg [Q8,SE,Q5])) from(AVle.agg (.cons (AVle.refl _) (.cons (AVle.refl _) (.cons C6 .nil))))) (show(AVle (.agg [Q1,rY,Q8,SE,Q5]) (.agg [Q1,wu,Q8,SE,Q5])) from(AVle.agg (.cons (AVle.refl _) (.cons C6 (.cons (AVle.refl _) (.cons (AVle.refl _) (.cons (AVle.refl _) .nil))))))) (A0 5 Bf (default:Ab) Dw))) (O8 Q9 (tS h (gK (e:=.ret) (Hd [] (show Le Γ _ (⟨[(0,(.ptr 0 0))],[(0,.row 25 [(AV.list 1 Ao 0 ([(1:Int)]:Ad) .none),NJ,(AV.list 5 Bf default Dw .none)])],[]⟩:St) from Le.trans (Bs (st':=Q9) [0] [0] q) (Ng (.cons (AVle.refl _) .nil) (.row (.cons AVle.untag (.cons (AVle.refl _) (.cons AVle.untag .nil))) .nil))))))))
abbrev rQ:=(LR (Int×Int) Int)
def Ni(a9:Aa):G2->Option rQ:=
 λ((i1,i2):G2)=>(bif (decide (i2<(a9.Blocks.length:Int))) then(Az (Ay i2 a9.Blocks.length) (some (.next ((A3 (i1+(A3 ((((a9.Blocks.getD i2.toNat default).Phis).length:Int)+(((a9.Blocks.getD i2.toNat default).Ops).length:Int))))),(A3 (i2+1)))))) else(some (.done i1)))
def Sq(a9:Aa):Option Int:=
 ((Af (Ni a9) ((a9.Blocks.length:Int),(0:Int))).bind (λx5=>(some x5)))
variable{v0:Aa}{v1:Int}
theorem XK(h:Sq v0=some v1):sP 68 [(RV v0)] [] (.int .i64 v1) []:=
 sG Tryz.func68 λΓ q=>tW q [1] [1] [1,3] [1] (Ag q YX [] (tL q h YX [] (λu (i1,i2)=>(Dv u [(3,(Aq i1)),(Db 12 i2)] [])) (λu i3=>aG Γ (.exit 0) (⟨[(3,(Aq i3))],[],[]⟩:St)) (λ⟨i1,i2⟩ y h=>Ag q [3,10,11,12,13] [] (gC h (λh=>tV q [3,5,10,11,12] [5] h λh=>tW q YX [] YX [] (tN h)) λh=>tS h (gO (B0 (Bs [3] [] q))))) λx5 h=>gA (Ag q [2] [] (tS h (Bj [])))))
def Hs(aA:Ad):Int->Option (LR Int (Unit ⊕ Bool)):=
 λ(i1:Int)=>(bif (decide (i1<(aA.length:Int))) then(Az (Ay i1 aA.length) (bif (bif (decide ((aA.getD i1.toNat 0)<0)) then true else(decide ((2147483647:Int)<(aA.getD i1.toNat 0)))) then(some (.done (.inr false))) else(some (.next (A3 (i1+1)))))) else(some (.done (.inl ()))))
def EI(Γ:G8)(aA:Ad)(r:Bool):Exit->St->Prop:=fK Tryz.prog Γ Tryz.f69.results.toList [] (.bool r) []
def C4(aA:Ad):Option Bool:=
 ((Af (Hs aA) (0:Int)).bind (λx3=>(match x3 with|(.inl _)=>(some true)|(.inr r5)=>(some r5))))
variable{v2:Ad}{v3:Bool}
theorem Fi(h:C4 v2=some v3):sP 69 [(Lo v2)] [] (.bool v3) []:=
 sG Tryz.func69 λΓ q=>tW q [0] [] RO [] (tL q h RO [] (λu i1=>(Dv u [(7,(Aq i1))] [])) (λu x_=>match x_ with|(.inl _)=>aG Γ (.exit 0) (⟨[],[],[]⟩:St)|(.inr r_)=>aR (EI Γ v2 r_)) (λi1 y h=>Ag q [5,6,7,8] [] (gC h (λh=>tV q [4,5,6,7] [] h λh=>tU q [5,6,7,16] [] (c2 (gI ((decide ((v2.getD i1.toNat 0)<0))==false)) (Pv (decide ((v2.getD i1.toNat 0)<0)))) (gC h (λh=>Ag q [2] [] (tS h (gO (Oa (Hd [] (Le.refl _ _)))))) λh=>Ag q RO [] (tN h))) λh=>tS h (gO (B0 (Bs [] [] q))))) λx3 h=>(match x3,h with | .inl _,h=>gA (Ag q [2] [] (tS h (Bj []))) | .inr r5,h=>gAr (λst' hk=>tS h (gK hk))))
def Gd(aA:Ad):Option Bool:=
 ((bif ((decide ((aA.length:Int)<=64))==true) then C4 aA else some false).bind λx1=>(some (bif (decide ((aA.length:Int)<=64)) then x1 else false)))
theorem La(h:Gd v2=some v3):sP 169 [(Lo v2)] [] (.bool v3) []:=
 sG Tryz.func169 λΓ q=>Ag q [0] [] (tB h λx1 y1 h=>tT q [2] [] [(Z9 x1)] (c3 (gI ((decide ((v2.length:Int)<=64))==true)) (λ(hg:((decide ((v2.length:Int)<=64))==true)=true)=>(Fi (B4 hg y1))) (O9 (decide ((v2.length:Int)<=64)))) (tS h (Bj [])))
def Nk(aQ:Bb):Option Bool:=
 ((C4 ([aQ.Bits,aQ.Dst]:Ad)).bind λx1=>((bif (x1==true) then Gd aQ.From else some false).bind λx2=>((bif ((bif x1 then x2 else false)==true) then Gd aQ.Args else some false).bind λx3=>(some (bif (bif x1 then x2 else false) then x3 else false)))))
variable{v4:Bb}
theorem LM(h:Nk v4=some v3):sP 125 [(.agg (Fz v4))] [] (.bool v3) []:=
 sG Tryz.func125 λΓ q=>Ag q [1] [1] (tB h λx1 y1 h=>tB h λx2 y2 h=>tB h λx3 y3 h=>gR q [2] [] [(7,(pT v4.Bits v4.Dst))] [(Z9 x1),(Z9 x2),(Z9 x3)] (NT (A0 1 Ao (0:Int) ([v4.Bits,v4.Dst]:Ad)) (Fi y1) (Qy (x1==true) (NT (λ(hg:(x1==true)=true)=>(La (B4 hg y2))) (O9 x1) (Qy ((bif x1 then x2 else false)==true) (c2 (λ(hg:((bif x1 then x2 else false)==true)=true)=>(La (B4 hg y3))) (O9 (bif x1 then x2 else false))))))) (tS h (Bj [])))
def Fp(aA:List Bb):Int->Option (LR Int (Unit ⊕ Bool)):=
 λ(i1:Int)=>(bif (decide (i1<(aA.length:Int))) then(Az (Ay i1 aA.length) ((Nk (aA.getD i1.toNat default)).bind λx3=>(bif (!x3) then(some (.done (.inr false))) else(some (.next (A3 (i1+1))))))) else(some (.done (.inl ()))))
def W5(Γ:G8)(aA:List Bb)(r:Bool):Exit->St->Prop:=fK Tryz.prog Γ Tryz.f124.results.toList [] (.bool r) []
def Hc(aA:List Bb):Option Bool:=
 ((Af (Fp aA) (0:Int)).bind (λx4=>(match x4 with|(.inl _)=>(some true)|(.inr r6)=>(some r6))))
variable{v5:List Bb}
theorem V0(h:Hc v5=some v3):sP 124 [(rl v5),(Sb 125)] [] (.bool v3) []:=
 sG Tryz.func124 λΓ q=>tW q Cy [] J2 [] (tL q h J2 [] (λu i1=>(Dv u [(9,(Aq i1))] [])) (λu x_=>match x_ with|(.inl _)=>aG Γ (.exit 0) (⟨[],[],[]⟩:St)|(.inr r_)=>aR (W5 Γ v5 r_)) (λi1 y h=>Ag q KZ [] (gC h (λh=>tV q LA [6] h λh=>tB h λx3 y3 h=>tT q RS [] [(Z9 x3)] (c1 (LM y3)) (gC h (λh=>Ag q [4] [] (tS h (gO (Oa (Hd [] (Le.refl _ _)))))) λh=>Ag q J2 [] (tN h))) λh=>tS h (gO (B0 (Bs [] [] q))))) λx4 h=>(match x4,h with | .inl _,h=>gA (Ag q [4] [] (tS h (Bj []))) | .inr r6,h=>gAr (λst' hk=>tS h (gK hk))))
def Pc(a2:A6):Option Bool:=
 ((C4 ([a2.Kind,a2.Bits,a2.Lanes,a2.Dst]:Ad)).bind λx1=>((bif (x1==true) then Gd a2.Args else some false).bind λx2=>(some (bif x1 then x2 else false))))
variable{v6:A6}
theorem OY(h:Pc v6=some v3):sP 127 [(EM v6)] [] (.bool v3) []:=
 sG Tryz.func127 λΓ q=>Ag q [1] [1] (tB h λx1 y1 h=>tB h λx2 y2 h=>gR q [2] [] [(11,(AV.list 1 Ao 0 ([v6.Kind,v6.Bits,v6.Lanes,v6.Dst]:Ad) .exact))] [(Z9 x1),(Z9 x2)] (NT (A0 1 Ao (0:Int) ([v6.Kind,v6.Bits,v6.Lanes,v6.Dst]:Ad)) (Fi y1) (Qy (x1==true) (c2 (λ(hg:(x1==true)=true)=>(La (B4 hg y2))) (O9 x1)))) (tS h (Bj [])))
def F9(aA:List A6):Int->Option (LR Int (Unit ⊕ Bool)):=
 λ(i1:Int)=>(bif (decide (i1<(aA.length:Int))) then(Az (Ay i1 aA.length) ((Pc (aA.getD i1.toNat default)).bind λx3=>(bif (!x3) then(some (.done (.inr false))) else(some (.next (A3 (i1+1))))))) else(some (.done (.inl ()))))
def X3(Γ:G8)(aA:List A6)(r:Bool):Exit->St->Prop:=fK Tryz.prog Γ Tryz.f126.results.toList [] (.bool r) []
def Hr(aA:List A6):Option Bool:=
 ((Af (F9 aA) (0:Int)).bind (λx4=>(match x4 with|(.inl _)=>(some true)|(.inr r6)=>(some r6))))
variable{v7:List A6}
theorem Xv(h:Hr v7=some v3):sP 126 [(TJ v7),(Sb 127)] [] (.bool v3) []:=
 sG Tryz.func126 λΓ q=>tW q Cy [] J2 [] (tL q h J2 [] (λu i1=>(Dv u [(9,(Aq i1))] [])) (λu x_=>match x_ with|(.inl _)=>aG Γ (.exit 0) (⟨[],[],[]⟩:St)|(.inr r_)=>aR (X3 Γ v7 r_)) (λi1 y h=>Ag q KZ [] (gC h (λh=>tV q LA [6] h λh=>tB h λx3 y3 h=>tT q RS [] [(Z9 x3)] (c1 (OY y3)) (gC h (λh=>Ag q [4] [] (tS h (gO (Oa (Hd [] (Le.refl _ _)))))) λh=>Ag q J2 [] (tN h))) λh=>tS h (gO (B0 (Bs [] [] q))))) λx4 h=>(match x4,h with | .inl _,h=>gA (Ag q [4] [] (tS h (Bj []))) | .inr r6,h=>gAr (λst' hk=>tS h (gK hk))))
def Nj(aS:Eo):Option Bool:=
 ((C4 ([aS.Kind,aS.Arg]:Ad)).bind λx1=>((bif (x1==true) then Gd aS.To else some false).bind λx2=>(some (bif x1 then x2 else false))))
variable{v8:Eo}
theorem LL(h:Nj v8=some v3):sP 128 [(.agg (f8 v8))] [] (.bool v3) []:=
 sG Tryz.func128 λΓ q=>Ag q [1] [1] (tB h λx1 y1 h=>tB h λx2 y2 h=>gR q [2] [] [(7,(pT v8.Kind v8.Arg))] [(Z9 x1),(Z9 x2)] (NT (A0 1 Ao (0:Int) ([v8.Kind,v8.Arg]:Ad)) (Fi y1) (Qy (x1==true) (c2 (λ(hg:(x1==true)=true)=>(La (B4 hg y2))) (O9 x1)))) (tS h (Bj [])))
def K3(aO:Ab):Option Bool:=
 ((Hc aO.Phis).bind λx1=>((bif (x1==true) then Hr aO.Ops else some false).bind λx2=>((bif ((bif x1 then x2 else false)==true) then Nj (⟨aO.End.Kind,aO.End.Arg,aO.End.To⟩:Eo) else some false).bind λx3=>(some (bif (bif x1 then x2 else false) then x3 else false)))))
variable{v9:Ab}
theorem FT(h:K3 v9=some v3):sP 71 [(.agg (Bf v9))] [] (.bool v3) []:=
 sG Tryz.func71 λΓ q=>Ag q [1] [1] (tB h λx1 y1 h=>tB h λx2 y2 h=>tB h λx3 y3 h=>tT q [2] [] [(Z9 x1),(Z9 x2),(Z9 x3)] (ci (V0 y1) (Qy (x1==true) (NT (λ(hg:(x1==true)=true)=>(Xv (B4 hg y2))) (O9 x1) (Qy ((bif x1 then x2 else false)==true) (c2 (λ(hg:((bif x1 then x2 else false)==true)=true)=>(LL (B4 hg y3))) (O9 (bif x1 then x2 else false))))))) (tS h (Bj [])))
def Ey(aA:List Ab):Int->Option (LR Int (Unit ⊕ Bool)):=
 λ(i1:Int)=>(bif (decide (i1<(aA.length:Int))) then(Az (Ay i1 aA.length) ((K3 (aA.getD i1.toNat default)).bind λx3=>(bif (!x3) then(some (.done (.inr false))) else(some (.next (A3 (i1+1))))))) else(some (.done (.inl ()))))
def T6(Γ:G8)(aA:List Ab)(r:Bool):Exit->St->Prop:=fK Tryz.prog Γ Tryz.f70.results.toList [] (.bool r) []
def F8(aA:List Ab):Option Bool:=
 ((Af (Ey aA) (0:Int)).bind (λx4=>(match x4 with|(.inl _)=>(some true)|(.inr r6)=>(some r6))))
variable{v10:List Ab}
theorem Ts(h:F8 v10=some v3):sP 70 [(GW v10),(Sb 71)] [] (.bool v3) []:=
 sG Tryz.func70 λΓ q=>tW q Cy [] J2 [] (tL q h J2 [] (λu i1=>(Dv u [(9,(Aq i1))] [])) (λu x_=>match x_ with|(.inl _)=>aG Γ (.exit 0) (⟨[],[],[]⟩:St)|(.inr r_)=>aR (T6 Γ v10 r_)) (λi1 y h=>Ag q KZ [] (gC h (λh=>tV q LA [6] h λh=>tB h λx3 y3 h=>tT q RS [] [(Z9 x3)] (c1 (FT y3)) (gC h (λh=>Ag q [4] [] (tS h (gO (Oa (Hd [] (Le.refl _ _)))))) λh=>Ag q J2 [] (tN h))) λh=>tS h (gO (B0 (Bs [] [] q))))) λx4 h=>(match x4,h with | .inl _,h=>gA (Ag q [4] [] (tS h (Bj []))) | .inr r6,h=>gAr (λst' hk=>tS h (gK hk))))
def yJ(a9:Aa):=(decide ((a9.Blocks.length:Int)<1))
def wv(a9:Aa):=(decide ((16:Int)<(a9.Params.length:Int)))
def Rg(a9:Aa):Option Bool:=
 (bif (bif (decide ((a9.Blocks.length:Int)<1)) then true else(decide ((64:Int)<(a9.Blocks.length:Int)))) then(some false) else((bif ((decide ((16:Int)<(a9.Params.length:Int)))==false) then Sq a9 else some (0:Int)).bind λx1=>(bif (bif (decide ((16:Int)<(a9.Params.length:Int))) then true else(decide ((512:Int)<x1))) then(some false) else((C4 a9.Params).bind λx2=>((bif (x2==true) then C4 ([a9.Ret]:Ad) else some false).bind λx3=>((bif ((bif x2 then x3 else false)==true) then F8 a9.Blocks else some false).bind λx4=>(some (bif (bif x2 then x3 else false) then x4 else false))))))))
theorem KB(h:Rg v0=some v3):sP 28 [(RV v0)] [] (.bool v3) []:=
 sG Tryz.func28 λΓ q=>Ag q [1] [1] (tU q [1,12] [1] (dj ((yJ v0)==false) (c1 (Pv (yJ v0)))) (gC h (λh=>Ag q [2] [] (tS h (Bj []))) λh=>tB h λx1 y1 h=>tT q [1,21] [1] [(MJ x1)] (c4 (gI ((wv v0)==false)) (λ(hg:((wv v0)==false)=true)=>(XK (B4 hg y1))) (gI ((wv v0)==false)) (Pv (wv v0))) (gC h (λh=>Ag q [2] [] (tS h (Bj []))) λh=>tB h λx2 y2 h=>tB h λx3 y3 h=>tB h λx4 y4 h=>gR q [2] [] [(28,(pW v0.Ret))] [(Z9 x2),(Z9 x3),(Z9 x4)] (ci (Fi y2) (Qy (x2==true) (SG (show((x2==true)=true->(AVle (s8 v0.Ret) (pW v0.Ret))) from(λhg=>@(A0 1 Ao (0:Int) ([v0.Ret]:Ad)))) (gI (x2==true)) (λ(hg:(x2==true)=true)=>(Fi (B4 hg y3))) (O9 x2) (Qy ((bif x2 then x3 else false)==true) (c2 (λ(hg:((bif x2 then x3 else false)==true)=true)=>(Ts (B4 hg y4))) (O9 (bif x2 then x3 else false))))))) (tS h (Bj [])))))
def Kf(aaV:Bool)(aS:Int):Option Int:=
 (bif aaV then(some (0:Int)) else(some aS))
variable{v11:Int}
theorem Wo(h:Kf v3 v1=some v11):sP 140 [(.bool v3),(Aq v1)] [] (.int .i64 v11) []:=
 sG Tryz.func140 λΓ q=>tW q Cy [] [1,5] [] (gC h (λh=>Ag q [4] [] (tS h (Bj []))) λh=>Ag q [4] [] (tS h (Bj [])))
abbrev jx:=(Int×Aa×Int×Ad×List Bd)
def Hp(a3:Aa)(a7:Int)(a0:Ad)(a4:List Bd):Option jx:=
 ((Rg a3).bind λx1=>((Kf x1 (4:Int)).bind λx2=>(some (x2,a3,a7,a0,a4))))
variable{v12:List Bd}{v13:jx}
theorem Xt(h:Hp v0 v1 v2 v12=some v13):sP 87 CZ (Z4 v0.Params v0.Ret v0.Blocks v1 v2 v12 v12.length) (Aq v13.1) (Z4 v13.2.1.Params v13.2.1.Ret v13.2.1.Blocks v13.2.2.1 v13.2.2.2.1 v13.2.2.2.2 v13.2.2.2.2.length):=
 sG Tryz.func87 λΓ q=>Ag q [0] C3 (tB h λx1 y1 h=>tB h λx2 y2 h=>tT q [2] C3 [(Z9 x1),(MJ x2)] (c2 (KB y1) (Wo y2)) (tS h (Bj Wy)))
def Jg(aW:Int):Option Bool:=
 (some (bif (decide ((1:Int)<=aW)) then(decide (aW<=64)) else false))
theorem Uq(h:Jg v1=some v3):sP 129 [(Aq v1)] [] (.bool v3) []:=
 sG Tryz.func129 λΓ q=>Ag q [0] [] (tU q [2] [] (c2 (gI ((decide ((1:Int)<=v1))==true)) (O9 (decide ((1:Int)<=v1)))) (tS h (Bj [])))
def Hl(aK:Int)(aW:Int):Option Bool:=
 (some (bif (decide ((0:Int)<=aK)) then(decide (aK<aW)) else false))
theorem Oy(h:Hl v1 v11=some v3):sP 170 [(Aq v1),(Aq v11)] [] (.bool v3) []:=
 sG Tryz.func170 λΓ q=>Ag q Cy [] (tU q [4] [] (Qy ((decide ((0:Int)<=v1))==true) (c1 (O9 (decide ((0:Int)<=v1))))) (tS h (Bj [])))
def Ef(aS:Eo)(aW:Int):Int->Option (LR Int (Unit ⊕ Bool)):=
 λ(i7:Int)=>(bif (decide (i7<(aS.To.length:Int))) then(Az (Ay i7 aS.To.length) ((bif (((aS.To.getD i7.toNat 0)==0)==false) then Hl (aS.To.getD i7.toNat 0) aW else some false).bind λx9=>(bif (bif ((aS.To.getD i7.toNat 0)==0) then true else(!x9)) then(some (.done (.inr false))) else(some (.next (A3 (i7+1))))))) else(some (.done (.inl ()))))
def Wc(Γ:G8)(aS:Eo)(aW:Int)(r:Bool):Exit->St->Prop:=fK Tryz.prog Γ Tryz.f130.results.toList [] (.bool r) []
def ww(aS:Eo)(i7:Int):=((aS.To.getD i7.toNat 0)==0)
def Me(aS:Eo)(aW:Int):Option Bool:=
 (Option.bind (α:=(Int ⊕ Bool)) (Option.bind (α:=Bool) (bif (aS.Kind==0) then(some (aS.Kind==0)) else(some (aS.Kind==3))) (λx3=>(bif x3 then(some (.inl (0:Int))) else(bif (aS.Kind==1) then(some (.inl (1:Int))) else(bif (aS.Kind==2) then(some (.inl (2:Int))) else(some (.inr false))))))) (λx5=>(match x5 with|(.inl i1)=>(bif ((aS.To.length:Int)!=i1) then(some false) else((Af (Ef aS aW) (0:Int)).bind (λx10=>(match x10 with|(.inl _)=>(some true)|(.inr r12)=>(some r12)))))|(.inr r13)=>(some r13))))
theorem HZ(h:Me v8 v1=some v3):sP 130 [(.agg (f8 v8)),(Aq v1)] [] (.bool v3) []:=
 sG Tryz.func130 λΓ q=>tW q R9 [2] JE [2] (tB h λx5 y5 h=>gJ y5 (λx_=>match x_ with|(.inl i1)=>aG Γ .normal (⟨[(1,(Aq v1)),AG,(5,(Aq i1))],[(2,.row 46 [(Aq v8.Kind),(Aq v8.Arg),(Lo v8.To)])],[]⟩:St)|(.inr r_)=>aR (Wc Γ v8 v1 r_)) (λy h=>Ag q [1,2,5,9] [2] (tB h λx3 y3 h=>gJ y3 (λb2=>aG Γ .normal (⟨[(1,(Aq v1)),AG,(5,In),(9,(Aq v8.Kind)),(10,(.bool b2))],[(2,.row 46 [(Aq v8.Kind),(Aq v8.Arg),(Lo v8.To)])],[]⟩:St)) (λy h=>Ag q [1,2,5,9,10] [2] (gC h (λh=>tS h (gK (B0 Kb))) λh=>Ag q [1,2,5,9,10] [2] (tS h (gK (B0 Kb))))) (gA (gC h (λh=>tS h (gK (B0 (Bs JE [2] q)))) λh=>Ag q [1,2,9,13] [2] (gC h (λh=>Ag q JE [2] (tS h (gK (B0 Kb)))) λh=>Ag q [1,2,15] [2] (gC h (λh=>Ag q JE [2] (tS h (gK (B0 Kb)))) λh=>Ag q [4] [] (tS h (gK (Oa (Hd [] (Le.refl _ _))))))))))) (match x5,h with | .inl i1,h=>gA (Ag q [1,2,21] [2] (gC h (λh=>Ag q [4] [] (tS h (Bj []))) λh=>Ag q fP [] (tL q h fP [] (λu i7=>(Dv u [(Db 25 i7)] [])) (λu x_=>match x_ with|(.inl _)=>aG Γ (.exit 1) (⟨[],[],[]⟩:St)|(.inr r_)=>aR (Wc Γ v8 v1 r_)) (λi7 y h=>Ag q [1,23,24,25,26] [] (gC h (λh=>tV q [1,7,23,24,25] [] h λh=>tB h λx9 y9 h=>tT q [1,23,24,25,36] [] [(Z9 x9)] (Qy ((ww v8 i7)==false) (c3 (λ(hg:((ww v8 i7)==false)=true)=>(Oy (B4 hg y9))) (gI ((ww v8 i7)==false)) (Pv (ww v8 i7)))) (gC h (λh=>Ag q [4] [] (tS h (gO (Oa (Hd [] (Le.refl _ _)))))) λh=>Ag q fP [] (tN h))) λh=>tS h (gO (B0 (Bs [] [] q))))) λx10 h=>(match x10,h with | .inl _,h=>gA (Ag q [4] [] (tS h (Bj []))) | .inr r12,h=>gAr (λst' hk=>tS h (gK hk)))))) | .inr r13,h=>gAr (λst' hk=>tS h (gK hk))))
abbrev iA:=(Int×Fl)
abbrev ui:=(LR (Int×Fl) Fl)
def Jw(aI:Fl)(i2:Int):iA->Option ui:=
 λ((i6,l7):iA)=>(bif (decide (i6<((aI.getD i2.toNat []).length:Int))) then(Az (Ay i6 (aI.getD i2.toNat []).length) (Az (Ay ((aI.getD i2.toNat []).getD i6.toNat 0) l7.length) (Az (Ay ((aI.getD i2.toNat []).getD i6.toNat 0) l7.length) (Az ((l7.getD ((aI.getD i2.toNat []).getD i6.toNat 0).toNat []).length+([i2]:Ad).length<=room) (Az (Ay ((aI.getD i2.toNat []).getD i6.toNat 0) l7.length) (some (.next ((A3 (i6+1)),(l7.set ((aI.getD i2.toNat []).getD i6.toNat 0).toNat ((l7.getD ((aI.getD i2.toNat []).getD i6.toNat 0).toNat [])++([i2]:Ad))))))))))) else(some (.done l7)))
def Ht(aI:Fl):iA->Option ui:=
 λ((i2,l3):iA)=>(bif (decide (i2<(aI.length:Int))) then(Az (Ay i2 aI.length) ((Af (Jw aI i2) ((0:Int),l3)).bind (λx14=>(some (.next ((A3 (i2+1)),x14)))))) else(some (.done l3)))
def ow(i2:Int):=([i2]:Ad)
def j5(aI:Fl)(i2:Int)(i6:Int):=((aI.getD i2.toNat []).getD i6.toNat 0)
def kO(l7:Fl)(aI:Fl)(i2:Int)(i6:Int):=(l7.getD (j5 aI i2 i6).toNat [])
def sd(aI:Fl):=(List.replicate (aI.length:Int).toNat ([]:Ad))
def vB(l7:Fl)(aI:Fl)(i2:Int)(i6:Int):=(l7.set (j5 aI i2 i6).toNat ((kO l7 aI i2 i6)++(ow i2)))
def xN(aI:Fl):List ju:=[(0,(JK aI)),(3,(.vsl 10 (aI.length:Int).toNat))]
def yK(l7:Fl)(i2:Int)(aI:Fl)(i6:Int):List ju:=[(3,(.vsl 10 l7.length)),(4,(Aq i2)),(11,(JK aI)),(12,(Od aI.length)),(Db 13 i2),(18,(AV.list 1 Ao 0 (aI.getD i2.toNat []) .none)),(19,(.int .i64 ((aI.getD i2.toNat []).length:Int))),(Db 20 i6)]
def yL(l7:Fl)(i2:Int)(aI:Fl)(i6:Int):List ju:=[(3,(.vsl 10 l7.length)),(4,(Aq i2)),(7,(Aq (j5 aI i2 i6))),(11,(JK aI)),(12,(Od aI.length)),(Db 13 i2),(18,(AV.list 1 Ao 0 (aI.getD i2.toNat []) .none)),(19,(.int .i64 ((aI.getD i2.toNat []).length:Int))),(Db 20 i6)]
def Kj(aI:Fl):Option Fl:=
 (Az (0<=(aI.length:Int)/\(aI.length:Int)<=(aI.length:Int)/\(aI.length:Int)<=(room:Int)) ((Af (Ht aI) ((0:Int),(List.replicate (aI.length:Int).toNat ([]:Ad)))).bind (λx16=>(some x16))))
variable{v14:Fl}{v15:Fl}
theorem Wq(h:Kj v14=some v15):sP 132 [(JK v14)] [] (AV.list 1 Js [] v15 (.own 20000)) [(20000,.tok 1 22 v15.length)]:=
 sG Tryz.func132 λΓ q=>have hΓ:=q.own;gR q [0] [] [(2,(AV.list 1 Js [] ([]:Fl) .exact))] [] (c1 (Be 1 Js [])) (tV q Ln [10] h λh=>O8 (⟨(xN v14),[(10,.arr 1 22 ((v14.length:Int).toNat) (λi_=>AV.eraseAll (λn_=>Bp n_ [10]) ((λ_=>[SD]) i_)))],[]⟩:St) (Ka (Le.trans (Ng (st':=⟨(xN v14),[(10,.arr 1 22 ((v14.length:Int).toNat) (P7 1 Ao (0:Int) (sd v14) (λ_=>.exact)))],[]⟩) (TmpsLe.refl _) (.arr lk .nil)) (Le.trans (Le.trans (mG (r:=10) (b:=70010) Ao (0:Int) (sd v14) 3 rfl rfl (Pu ..).symm (λh_=>absurd h_ (by decide))) (Kc (st':=⟨(xN v14),[(10,.arr 1 22 ((v14.length:Int).toNat) (P7 1 Ao (0:Int) (sd v14) (Tag.fam 70010)))],[(70010,⟨1,3,Qk (sd v14)⟩)]⟩) (by kernel_rfl))) (Kc (Bn (λk_:Nat=>(⟨[(0,(JK v14)),(3,(.vsl 10 k_))],(pV k_ (sd v14)),[(70010,⟨1,3,Qk (sd v14)⟩)]⟩:St)) (show(v14.length:Int).toNat=(sd v14).length from(Pu ..).symm))))) (Ag q RF Ta (tL q h RF Ta (λu (i2,l3)=>(Dv u [(3,(.vsl 10 l3.length)),(Db 13 i2)] (pV l3.length l3) [(70010,⟨1,3,Qk l3⟩)])) (λu l4=>aG Γ (.exit 0) (⟨[(3,(.vsl 10 l4.length))],(pV l4.length l4),[(70010,⟨1,3,Qk l4⟩)]⟩:St)) (λ⟨i2,l3⟩ y h=>Ag q [3,11,12,13,14] Ta (gC h (λh=>tV q [3,4,5,11,12,13] Ta h λh=>Ag q iI Ta (tL q h iI Ta (λu (i6,l7)=>(Dv u [(3,(.vsl 10 l7.length)),(Db 20 i6)] (pV l7.length l7) [(70010,⟨1,3,Qk l7⟩)])) (λu l8=>aG Γ (.exit 2) (V4 RF Ta u [(3,(.vsl 10 l8.length))] (pV l8.length l8) [(70010,⟨1,3,Qk l8⟩)])) (λ⟨i6,l7⟩ y h=>Ag q [3,4,11,12,13,18,19,20,21] Ta (gC h (λh=>tV q [3,4,7,11,12,13,18,19,20] Ta h λh=>O8 (⟨(yL l7 i2 v14 i6),(pV l7.length l7),[(70010,⟨1,3,Qk l7⟩)]⟩:St) (tC h λc10_ h=>tC h λc11_ h=>tC h λc12_ h=>tC h λc13_ h=>Ka (Le.trans (qM (r:=10) (b:=70010) (k:=60010) Ao (0:Int) l7 (j5 v14 i2 i6).toNat 3 rfl rfl rfl rfl (So c10_) (by kernel_rfl) (.here .nil)) (Kc (st':=⟨(yL l7 i2 v14 i6),[(10,.arr 1 22 l7.length (P7 1 Ao (0:Int) l7 (Gl 70010 (j5 v14 i2 i6).toNat 60010))),(60010,.tok 1 3 ((kO l7 v14 i2 i6).length))],[(70010,⟨1,3,FB l7 (j5 v14 i2 i6).toNat⟩)]⟩) (by kernel_rfl))) (gR q iI [10,60010,70010] [(29,(WO (kO l7 v14 i2 i6) 60010)),(31,(pY (ow i2))),(32,(AV.list 1 Ao 0 ((kO l7 v14 i2 i6)++(ow i2)) (.own 60010)))] [] (yB c11_ (Eq.refl l7.length) (show(AVle (((P7 1 Ao (0:Int) l7 (Gl 70010 (j5 v14 i2 i6).toNat 60010)) (j5 v14 i2 i6).toNat).getD 0 .any) (WO (kO l7 v14 i2 i6) 60010)) from io) (A0 1 Ao (0:Int) (ow i2)) (Eq.refl ((kO l7 v14 i2 i6).length)) c12_ (Jr 1 60010 Ao (0:Int) (kO l7 v14 i2 i6) (ow i2)) (D2 (kO l7 v14 i2 i6) (ow i2)) c13_ (c1 (Eq.refl l7.length))) (O8 (⟨(yK l7 i2 v14 i6),[(10,.arr 1 22 l7.length (λi_=>AV.eraseAll (λn_=>Bp n_ [10,60010,70010]) ((Il (P7 1 Ao (0:Int) l7 (Gl 70010 (j5 v14 i2 i6).toNat 60010)) (j5 v14 i2 i6).toNat 0 [(AV.list 1 Ao 0 ((kO l7 v14 i2 i6)++(ow i2)) (.own 60010))]) i_))),(60010,.tok 1 3 (((kO l7 v14 i2 i6)++(ow i2)).length))],[(70010,⟨1,3,FB l7 (j5 v14 i2 i6).toNat⟩)]⟩:St) (Ka (Le.trans (Le.trans (tt (r:=10) (b:=70010) (k:=60010) Ao (0:Int) l7 (j5 v14 i2 i6).toNat ((kO l7 v14 i2 i6)++(ow i2)) 3 rfl (mq (So c10_) rfl rfl) rfl rfl rfl rfl (So c10_) (by kernel_rfl) (.here (.tok .nil)) (by rw[hΓ];rfl)) (Kc (st':=⟨(yK l7 i2 v14 i6),(pV l7.length (vB l7 v14 i2 i6)),[(70010,⟨1,3,Qk (vB l7 v14 i2 i6)⟩)]⟩) (by kernel_rfl))) (Kc (Bn (λk_:Nat=>(⟨[(3,(.vsl 10 k_)),(4,(Aq i2)),(11,(JK v14)),(12,(Od v14.length)),(Db 13 i2),(18,(AV.list 1 Ao 0 (v14.getD i2.toNat []) .none)),(19,(.int .i64 ((v14.getD i2.toNat []).length:Int))),(Db 20 i6)],(pV k_ (vB l7 v14 i2 i6)),[(70010,⟨1,3,Qk (vB l7 v14 i2 i6)⟩)]⟩:St)) (show l7.length=(vB l7 v14 i2 i6).length from(Cp ..).symm)))) (Ag q iI Ta (tN h))))))) λh=>tS h (gO (B0 (Bs RF Ta q))))) λx14 h=>gA (Ag q RF Ta (tN h)))) λh=>tS h (gO (B0 (Bs [3] Ta q))))) λx16 h=>gA (Ag q [2] Ta (O8 (⟨[(2,(.vsl 10 x16.length))],(pV x16.length x16),[(70010,⟨1,3,Qk x16⟩)]⟩:St) (tS h (gK (e:=.ret) (Hd [(10,20000)] (Le.trans (Fg (nm:=10) (sz:=1) (n:=x16.length) (e:=22) (f:=(P7 1 Ao (0:Int) x16 (Tag.fam 70010))) (g:=(λi=>Js (x16.getD i []))) rfl ⟨rfl,trivial⟩ (λ_ _=>rfl) (by rw[hΓ];rfl)) (Bs (st':=⟨[(2,(AV.list 1 Js [] x16 (.own 10)))],[(10,.tok 1 22 x16.length)],[]⟩) [2] [10] q)))))))))))
def Fs(a9:Aa):iA->Option (LR (Int×Fl) (Fl ⊕ (C5×Int))):=
 λ((i3,l4):iA)=>(bif (decide (i3<(a9.Blocks.length:Int))) then(Az (Ay i3 a9.Blocks.length) ((Me (⟨(a9.Blocks.getD i3.toNat default).End.Kind,(a9.Blocks.getD i3.toNat default).End.Arg,(a9.Blocks.getD i3.toNat default).End.To⟩:Eo) (a9.Blocks.length:Int)).bind λx7=>(bif (!x7) then(some (.done (.inr ((⟨([]:Fl),([]:Fl)⟩:C5),(5:Int))))) else((GL ((a9.Blocks.getD i3.toNat default).End.To)).bind λx8=>(Az (Ay i3 l4.length) (some (.next ((A3 (i3+1)),(l4.set i3.toNat x8))))))))) else(some (.done (.inl l4))))
abbrev sK:=(C5×Int)
def dE(Γ:G8)(a9:Aa)(r:sK):Exit->St->Prop:=fK Tryz.prog Γ Tryz.f75.results.toList [] (.tuple [(.agg (Sn r.1)),(Aq r.2)]) []
def oz:AV:=SD
def uV:List ju:=[AG,(3,WK)]
def yo(a9:Aa)(i3:Int):=(a9.Blocks.getD i3.toNat default)
def wx:AV:=(AV.list 1 Js [] ([]:Fl) .none)
def xQ(a9:Aa):=(List.replicate (a9.Blocks.length:Int).toNat ([]:Ad))
def rZ:List AV:=[(AV.list 1 Js [] ([]:Fl) .exact),(AV.list 1 Js [] ([]:Fl) .exact)]
def Rk(a9:Aa):Option sK:=
 ((Jg (a9.Blocks.length:Int)).bind λx1=>(bif (!x1) then(some ((⟨([]:Fl),([]:Fl)⟩:C5),(5:Int))) else(Az (0<=(a9.Blocks.length:Int)/\(a9.Blocks.length:Int)<=(a9.Blocks.length:Int)/\(a9.Blocks.length:Int)<=(room:Int)) ((Af (Fs a9) ((0:Int),(List.replicate (a9.Blocks.length:Int).toNat ([]:Ad)))).bind (λx10=>(match x10 with|(.inl l5)=>((Kj l5).bind λx12=>(some ((⟨l5,x12⟩:C5),(0:Int))))|(.inr r13)=>(some r13)))))))
variable{v16:sK}
theorem KE(h:Rk v0=some v16):sP 75 [(RV v0)] [] (.tuple [(.agg (Sn v16.1)),(Aq v16.2)]) []:=
 sG Tryz.func75 λΓ q=>have hΓ:=q.own;tW q R9 R9 V8 R9 (tB h λx1 y1 h=>tT q [1,2,4,13] R9 [(Z9 x1)] (c1 (Uq y1)) (gC h (λh=>gR q F2 [2] [(14,(.agg rZ))] [] (c1 (show(AVle (.agg [oz,oz]) (.agg rZ)) from(AVle.agg (.cons C6 (.cons C6 .nil))))) (O8 (⟨uV,[(2,.row 97 rZ)],[]⟩:St) (tS h (gK (e:=.ret) (Hd [] (show Le Γ _ (⟨uV,[(2,.row 97 [wx,wx])],[]⟩:St) from Le.trans (Bs (st':=⟨uV,[(2,.row 97 rZ)],[]⟩) F2 [2] q) (Ng (.cons (AVle.refl _) (.cons (AVle.refl _) .nil)) (.row (.cons AVle.untag (.cons AVle.untag .nil)) .nil)))))))) λh=>tV q ZF [1,2,16] h λh=>by exact Ka (Le.trans (Pa 16 (show ∀ k_,k_<((v0.Blocks.length:Int).toNat)->AVleL ((λi_=>AV.eraseAll (λn_=>Bp n_ [1,2,16]) ((λ_=>[oz]) i_)) k_) ((λi=>Js ((xQ v0).getD i [])) k_) from(λk hk=>K8 (e:=Js) (d:=[]) (.cons (λ_ _ _ _ _ hh=>AVle.untag _ _ _ _ _ (C6 _ _ _ _ _ hh)) .nil) _ k (Lb hk)))) (Pb (λ(k_:Nat) u=>(Dv u [(5,(.vsl 16 k_))] [(16,.arr 1 22 k_ (λi=>Js ((xQ v0).getD i [])))])) (show(v0.Blocks.length:Int).toNat=(xQ v0).length from(Pu ..).symm))) (Ag q YO T3 (tL q h YO T3 (λu (i3,l4)=>(Dv u [(5,(.vsl 16 l4.length)),(Db 20 i3)] [(16,.arr 1 22 l4.length (λi=>Js (l4.getD i [])))])) (λu x_=>match x_ with|(.inl l5)=>aG Γ (.exit 0) (V4 [2,5] T3 u [(5,(.vsl 16 l5.length))] [(16,.arr 1 22 l5.length (λi=>Js (l5.getD i [])))])|(.inr r_)=>aR (dE Γ v0 r_)) (λ⟨i3,l4⟩ y h=>Ag q [2,4,5,18,19,20,21] T3 (gC h (λh=>tV q [2,4,5,6,7,18,19,20] [2,7,16] h λh=>tB h λx7 y7 h=>tT q [2,4,5,6,7,18,19,20,29] [2,7,16] [(Z9 x7)] (c1 (HZ y7)) (gC h (λh=>gR q F2 [2] [(30,(.agg rZ))] [] (c1 (show(AVle (.agg [oz,oz]) (.agg rZ)) from(AVle.agg (.cons C6 (.cons C6 .nil))))) (O8 (⟨uV,[(2,.row 97 rZ)],[]⟩:St) (tS h (gO (Oa (Hd [] (show Le Γ _ (⟨uV,[(2,.row 97 [wx,wx])],[]⟩:St) from Le.trans (Bs (st':=⟨uV,[(2,.row 97 rZ)],[]⟩) F2 [2] q) (Ng (.cons (AVle.refl _) (.cons (AVle.refl _) .nil)) (.row (.cons AVle.untag (.cons AVle.untag .nil)) .nil))))))))) λh=>tB h λx8 y8 h=>tC h λc9_ h=>tT q YO T3 [⟨[],[],(Lo x8),[],[],[]⟩] (c3 (en ((yo v0 i3).End.To) x8 y8) c9_ (Eq.refl l4.length)) (Ka (Le.trans (Pa 16 (show ∀ k_,k_<l4.length->AVleL ((λi_=>AV.eraseAll (λn_=>Bp n_ T3) ((Il (λi=>Js (l4.getD i [])) i3.toNat 0 [(Lo x8)]) i_)) k_) ((λi=>Js ((l4.set i3.toNat x8).getD i [])) k_) from(A8 (Cp ..).symm (λk_ hk_=>(Bn (AV.eraseAll (λn_=>Bp n_ T3)) ((E1 (λ_ _=>rfl) (Fn c9_) rfl) k_ hk_)).trans rfl)))) (Pb (λ(k_:Nat) u=>(Dv u [(5,(.vsl 16 k_))] [(16,.arr 1 22 k_ (λi=>Js ((l4.set i3.toNat x8).getD i [])))])) (show l4.length=(l4.set i3.toNat x8).length from(Cp ..).symm))) (Ag q YO T3 (tN h))))) λh=>tS h (gO (B0 (Bs [2,5] T3 q))))) λx10 h=>(match x10,h with | .inl l5,h=>gA (O8 (⟨[AG,(5,(.vsl 16 l5.length))],[(2,.row 97 [oz,oz]),(16,.arr 1 22 l5.length (λi=>Js (l5.getD i [])))],[]⟩:St) (Ka (Le.trans (Fg (nm:=16) (sz:=1) (n:=l5.length) (e:=22) (f:=(λi=>Js (l5.getD i []))) (g:=(λi=>Js (l5.getD i []))) rfl ⟨rfl,trivial⟩ (λ_ _=>rfl) (by rw[hΓ];rfl)) (Kc (st':=⟨[AG,(5,(AV.list 1 Js [] l5 (.own 16)))],[(2,.row 97 [oz,oz]),(16,.tok 1 22 l5.length)],[]⟩) (by kernel_rfl))) (tB h λx12 y12 h=>tT q F2 [2,16,41] [⟨[],[(20000,41)],(AV.list 1 Js [] x12 (.own 20000)),[(20000,.tok 1 22 x12.length)],[],[]⟩] (c1 (Wq y12)) (tS h (Bj []))))) | .inr r13,h=>gAr (λst' hk=>tS h (gK hk)))))))
def Fh(aI:Fl)(i2:Int):G2->Option (LR (Int×Int) (Unit ⊕ Bool)):=
 λ((i4,i5):G2)=>(bif (decide (i5<((aI.getD i2.toNat []).length:Int))) then(Az (Ay i5 (aI.getD i2.toNat []).length) ((bif ((decide (((aI.getD i2.toNat []).getD i5.toNat 0)<=i4))==false) then Hl ((aI.getD i2.toNat []).getD i5.toNat 0) (aI.length:Int) else some false).bind λx7=>(bif (bif (decide (((aI.getD i2.toNat []).getD i5.toNat 0)<=i4)) then true else(!x7)) then(some (.done (.inr false))) else(some (.next (((aI.getD i2.toNat []).getD i5.toNat 0),(A3 (i5+1)))))))) else(some (.done (.inl ()))))
def Cu(aI:Fl):Int->Option (LR Int (Unit ⊕ Bool)):=
 λ(i2:Int)=>(bif (decide (i2<(aI.length:Int))) then(Az (Ay i2 aI.length) ((Af (Fh aI i2) ((-1:Int),(0:Int))).bind (λx8=>(match x8 with|(.inl _)=>(some (.next (A3 (i2+1))))|(.inr r10)=>(some (.done (.inr r10))))))) else(some (.done (.inl ()))))
def Wd(Γ:G8)(aI:Fl)(r:Bool):Exit->St->Prop:=fK Tryz.prog Γ Tryz.f204.results.toList [] (.bool r) []
def wy(aI:Fl)(i2:Int)(i5:Int)(i4:Int):=(decide (((aI.getD i2.toNat []).getD i5.toNat 0)<=i4))
def Mf(aI:Fl):Option Bool:=
 ((Jg (aI.length:Int)).bind λx1=>(bif (!x1) then(some false) else((Af (Cu aI) (0:Int)).bind (λx11=>(match x11 with|(.inl _)=>(some true)|(.inr r13)=>(some r13))))))
theorem IA(h:Mf v14=some v3):sP 204 [(JK v14)] [] (.bool v3) []:=
 sG Tryz.func204 λΓ q=>Ag q [0] [] (tB h λx1 y1 h=>tT q [0,11] [] [(Z9 x1)] (c1 (Uq y1)) (gC h (λh=>Ag q [2] [] (tS h (Bj []))) λh=>Ag q RG [] (tL q h RG [] (λu i2=>(Dv u [(Db 14 i2)] [])) (λu x_=>match x_ with|(.inl _)=>aG Γ (.exit 0) (⟨[],[],[]⟩:St)|(.inr r_)=>aR (Wd Γ v14 r_)) (λi2 y h=>Ag q [0,12,13,14,15] [] (gC h (λh=>tV q YR [] h λh=>tW q [0,4,5,12,13,14] [] iJ [] (tL q h iJ [] (λu (i4,i5)=>(Dv u [(5,(Aq i4)),(Db 20 i5)] [])) (λu x_=>match x_ with|(.inl _)=>aG Γ (.exit 2) (V4 RG [] u [] [])|(.inr r_)=>aR (Wd Γ v14 r_)) (λ⟨i4,i5⟩ y h=>Ag q [0,5,12,13,14,18,19,20,21] [] (gC h (λh=>tV q [0,5,7,12,13,14,18,19,20] [] h λh=>tB h λx7 y7 h=>tT q [0,7,12,13,14,18,19,20,33] [] [(Z9 x7)] (dj ((wy v14 i2 i5 i4)==false) (c3 (λ(hg:((wy v14 i2 i5 i4)==false)=true)=>(Oy (B4 hg y7))) (gI ((wy v14 i2 i5 i4)==false)) (Pv (wy v14 i2 i5 i4)))) (gC h (λh=>Ag q [2] [] (tS h (gO (Oa (Hd [] (Le.refl _ _)))))) λh=>tW q iJ [] iJ [] (tN h))) λh=>tS h (gO (B0 (Bs RG [] q))))) λx8 h=>(match x8,h with | .inl _,h=>gA (Ag q RG [] (tN h)) | .inr r10,h=>gAr (λst' hk=>tS h (gO (Oa hk)))))) λh=>tS h (gO (B0 (Bs [] [] q))))) λx11 h=>(match x11,h with | .inl _,h=>gA (Ag q [2] [] (tS h (Bj []))) | .inr r13,h=>gAr (λst' hk=>tS h (gK hk))))))
def Dx(aa8:Ad)(aaC:Ad):Int->Option (LR Int (Unit ⊕ Bool)):=
 λ(i1:Int)=>(bif (decide (i1<(aa8.length:Int))) then(Az (Ay i1 aa8.length) (Az (Ay i1 aaC.length) (bif ((aa8.getD i1.toNat 0)!=(aaC.getD i1.toNat 0)) then(some (.done (.inr false))) else(some (.next (A3 (i1+1))))))) else(some (.done (.inl ()))))
def Va(Γ:G8)(aa8:Ad)(aaC:Ad)(r:Bool):Exit->St->Prop:=fK Tryz.prog Γ Tryz.f134.results.toList [] (.bool r) []
def Dr(aa8:Ad)(aaC:Ad):Option Bool:=
 (bif ((aa8.length:Int)!=(aaC.length:Int)) then(some false) else((Af (Dx aa8 aaC) (0:Int)).bind (λx4=>(match x4 with|(.inl _)=>(some true)|(.inr r6)=>(some r6)))))
variable{v17:Ad}
theorem Ii(h:Dr v2 v17=some v3):sP 134 [(Lo v2),(Lo v17)] [] (.bool v3) []:=
 sG Tryz.func134 λΓ q=>tW q Cy [] V7 [] (gC h (λh=>Ag q [4] [] (tS h (Bj []))) λh=>Ag q fW [] (tL q h fW [] (λu i1=>(Dv u [(Db 13 i1)] [])) (λu x_=>match x_ with|(.inl _)=>aG Γ (.exit 0) (⟨[],[],[]⟩:St)|(.inr r_)=>aR (Va Γ v2 v17 r_)) (λi1 y h=>Ag q [0,1,12,13,14] [] (gC h (λh=>Ag q [0,1,5,12,13] [] (tC h λc2_ h=>tC h λc3_ h=>tU q [0,1,12,13,24] [] (c2 c2_ c3_) (gC h (λh=>Ag q [4] [] (tS h (gO (Oa (Hd [] (Le.refl _ _)))))) λh=>Ag q fW [] (tN h)))) λh=>tS h (gO (B0 (Bs [] [] q))))) λx4 h=>(match x4,h with | .inl _,h=>gA (Ag q [4] [] (tS h (Bj []))) | .inr r6,h=>gAr (λst' hk=>tS h (gK hk)))))
def Bv(aa8:Fl)(aaC:Fl):Int->Option (LR Int (Unit ⊕ Bool)):=
 λ(i1:Int)=>(bif (decide (i1<(aa8.length:Int))) then(Az (Ay i1 aa8.length) (Az (Ay i1 aaC.length) ((Dr (aa8.getD i1.toNat []) (aaC.getD i1.toNat [])).bind λx4=>(bif (!x4) then(some (.done (.inr false))) else(some (.next (A3 (i1+1)))))))) else(some (.done (.inl ()))))
def Mi(Γ:G8)(aa8:Fl)(aaC:Fl)(r:Bool):Exit->St->Prop:=fK Tryz.prog Γ Tryz.f205.results.toList [] (.bool r) []
def Cv(aa8:Fl)(aaC:Fl):Option Bool:=
 (bif ((aa8.length:Int)!=(aaC.length:Int)) then(some false) else((Af (Bv aa8 aaC) (0:Int)).bind (λx5=>(match x5 with|(.inl _)=>(some true)|(.inr r7)=>(some r7)))))
theorem L3(h:Cv v14 v15=some v3):sP 205 [(JK v14),(JK v15),(Sb 134)] [] (.bool v3) []:=
 sG Tryz.func205 λΓ q=>tW q AF [] [0,1,2,14] [] (gC h (λh=>Ag q [6] [] (tS h (Bj []))) λh=>Ag q fG [] (tL q h fG [] (λu i1=>(Dv u [(Db 17 i1)] [])) (λu x_=>match x_ with|(.inl _)=>aG Γ (.exit 0) (⟨[],[],[]⟩:St)|(.inr r_)=>aR (Mi Γ v14 v15 r_)) (λi1 y h=>Ag q [1,2,15,16,17,18] [] (gC h (λh=>tV q [1,2,7,8,15,16,17] [] h λh=>tV q [1,2,8,9,15,16,17] [] h λh=>tB h λx4 y4 h=>tT q [1,2,15,16,17,30] [] [(Z9 x4)] (c1 (Ii y4)) (gC h (λh=>Ag q [6] [] (tS h (gO (Oa (Hd [] (Le.refl _ _)))))) λh=>Ag q fG [] (tN h))) λh=>tS h (gO (B0 (Bs [] [] q))))) λx5 h=>(match x5,h with | .inl _,h=>gA (Ag q [6] [] (tS h (Bj []))) | .inr r7,h=>gAr (λst' hk=>tS h (gK hk)))))
def Su(aM:C5):Option Bool:=
 ((Mf aM.Succ).bind λx1=>((bif (x1==true) then Kj aM.Succ else some []).bind λx2=>((bif (x1==true) then Cv aM.Pred x2 else some false).bind λx3=>(some (bif x1 then x3 else false)))))
variable{v18:C5}
theorem XO(h:Su v18=some v3):sP 175 [(.agg (Sn v18))] [] (.bool v3) []:=
 sG Tryz.func175 λΓ q=>Ag q [1] [1] (tB h λx1 y1 h=>tB h λx2 y2 h=>tB h λx3 y3 h=>tT q [2] [] [(Z9 x1),⟨[],[],(JK x2),[],[],[]⟩,(Z9 x3)] (ci (IA y1) (dj (x1==true) (ci (show((x1==true)=true->(sP 132 [(JK v18.Succ)] [] (JK x2) [])) from(λhg=>(Spec.drop (Wq (B4 hg y2))))) (Qy (x1==true) (c2 (λ(hg:(x1==true)=true)=>(L3 (B4 hg y3))) (O9 x1)))))) (tS h (Bj [])))
abbrev yI:=(Int×Int×Ad)
def Bg :yI->Option (LR (Int×Int×Ad) Ad):=
 λ((i1,i2,l3):yI)=>(bif (decide (i1<i2)) then(Az (Ay i2 l3.length) (Az (Ay i1 l3.length) (Az (Ay i1 l3.length) (Az (Ay i2 l3.length) (some (.next ((A3 (i1+1)),(A3 (i2-1)),((l3.set i1.toNat (l3.getD i2.toNat 0)).set i2.toNat (l3.getD i1.toNat 0))))))))) else(some (.done l3)))
def xR(l3:Ad)(i1:Int)(i2:Int):=((l3.set i1.toNat (l3.getD i2.toNat 0)).set i2.toNat (l3.getD i1.toNat 0))
def Ea(aP:Ad):Option Ad:=
 ((Af (S:=yI) (X:=Ad) Bg ((0:Int),(A3 ((aP.length:Int)-1)),aP)).bind (λx9=>(some x9)))
theorem Ll(h:Ea v2=some v17):sP 176 [(.vsl 34000 v2.length)] [(Tb 34000 v2)] (.tuple []) [(Tb 34000 v17)]:=
 sG Tryz.func176 λΓ q=>Ag q ED [34000] (tL q h ED [34000] (λu (i1,i2,l3)=>(Dv u [(0,(.vsl 34000 l3.length)),(2,(Aq i1)),(3,(Aq i2))] [(Tb 34000 l3)])) (λu l4=>aG Γ (.exit 0) (⟨[],[(Tb 34000 l4)],[]⟩:St)) (λ⟨i1,i2,l3⟩ y h=>Ag q [0,2,3,9] [34000] (gC h (λh=>tC h λc5_ h=>tC h λc6_ h=>tC h λc7_ h=>tC h λc8_ h=>tU q ED [34000] (c8 c5_ (Eq.refl l3.length) c6_ (Eq.refl l3.length) c7_ (Eq.refl l3.length) c8_ (Eq.refl l3.length)) (Ka (Le.trans (Pa 34000 (show ∀ k_,k_<l3.length->AVleL ((λi_=>AV.eraseAll (λn_=>Bp n_ [34000]) ((Il (Il (λi=>Ao (l3.getD i 0)) i1.toNat 0 [(.int .i64 (l3.getD i2.toNat 0))]) i2.toNat 0 [(.int .i64 (l3.getD i1.toNat 0))]) i_)) k_) ((λi=>Ao ((xR l3 i1 i2).getD i 0)) k_) from(A8 (Eq.trans (Cp ..).symm (Cp ..).symm) (λk_ hk_=>(Bn (AV.eraseAll (λn_=>Bp n_ [34000])) ((E1 (E1 (λ_ _=>rfl) (Fn c7_) rfl) (qH c8_) rfl) k_ hk_)).trans rfl)))) (Pb (λ(k_:Nat) u=>(Dv u [(0,(.vsl 34000 k_))] [(34000,.arr 1 3 k_ (λi=>Ao ((xR l3 i1 i2).getD i 0)))])) (show l3.length=(xR l3 i1 i2).length from(Eq.trans (Cp ..).symm (Cp ..).symm)))) (Ag q ED [34000] (tN h)))) λh=>tS h (gO (B0 (Bs [] [34000] q))))) λx9 h=>bL (λst' hl10=>tS h (gK (e:=.normal) (Hd [(34000,34000)] hl10))))
abbrev wY:=(LR Ad (Ad ⊕ (List Bool×Ad×Ad)))
def HK(aM:C5)(a5:Int):Ad->Option wY:=
 λ(l9:Ad)=>(Az (Ay ([a5].getD (A3 (([a5].length:Int)-1)).toNat (0:Int)) 64) (Az (Ay ([a5].getD (A3 (([a5].length:Int)-1)).toNat (0:Int)) aM.Succ.length) (bif (decide ((l9.getD ([a5].getD (A3 (([a5].length:Int)-1)).toNat (0:Int)).toNat (0:Int))<((aM.Succ.getD ([a5].getD (A3 (([a5].length:Int)-1)).toNat (0:Int)).toNat []).length:Int))) then(Az (Ay ([a5].getD (A3 (([a5].length:Int)-1)).toNat (0:Int)) aM.Succ.length) (Az (Ay ([a5].getD (A3 (([a5].length:Int)-1)).toNat (0:Int)) 64) (Az (Ay (l9.getD ([a5].getD (A3 (([a5].length:Int)-1)).toNat (0:Int)).toNat (0:Int)) (aM.Succ.getD ([a5].getD (A3 (([a5].length:Int)-1)).toNat (0:Int)).toNat []).length) (Az (Ay ([a5].getD (A3 (([a5].length:Int)-1)).toNat (0:Int)) 64) (Az (Ay ([a5].getD (A3 (([a5].length:Int)-1)).toNat (0:Int)) 64) (Az (Ay ((aM.Succ.getD ([a5].getD (A3 (([a5].length:Int)-1)).toNat (0:Int)).toNat []).getD (l9.getD ([a5].getD (A3 (([a5].length:Int)-1)).toNat (0:Int)).toNat (0:Int)).toNat (0:Int)) 64) (bif (!((M6 64 false (List.replicate 64 false) a5.toNat true).getD ((aM.Succ.getD ([a5].getD (A3 (([a5].length:Int)-1)).toNat (0:Int)).toNat []).getD (l9.getD ([a5].getD (A3 (([a5].length:Int)-1)).toNat (0:Int)).toNat (0:Int)).toNat (0:Int)).toNat false)) then(Az (Ay ((aM.Succ.getD ([a5].getD (A3 (([a5].length:Int)-1)).toNat (0:Int)).toNat []).getD (l9.getD ([a5].getD (A3 (([a5].length:Int)-1)).toNat (0:Int)).toNat (0:Int)).toNat (0:Int)) 64) (Az ([a5].length+([((aM.Succ.getD ([a5].getD (A3 (([a5].length:Int)-1)).toNat (0:Int)).toNat []).getD (l9.getD ([a5].getD (A3 (([a5].length:Int)-1)).toNat (0:Int)).toNat (0:Int)).toNat (0:Int))]:Ad).length<=room) (some (.done (.inr ((M6 64 false (M6 64 false (List.replicate 64 false) a5.toNat true) ((aM.Succ.getD ([a5].getD (A3 (([a5].length:Int)-1)).toNat (0:Int)).toNat []).getD (l9.getD ([a5].getD (A3 (([a5].length:Int)-1)).toNat (0:Int)).toNat (0:Int)).toNat (0:Int)).toNat true),(M6 64 (0:Int) l9 ([a5].getD (A3 (([a5].length:Int)-1)).toNat (0:Int)).toNat (A3 ((l9.getD ([a5].getD (A3 (([a5].length:Int)-1)).toNat (0:Int)).toNat (0:Int))+1))),([a5]++([((aM.Succ.getD ([a5].getD (A3 (([a5].length:Int)-1)).toNat (0:Int)).toNat []).getD (l9.getD ([a5].getD (A3 (([a5].length:Int)-1)).toNat (0:Int)).toNat (0:Int)).toNat (0:Int))]:Ad)))))))) else(some (.next (M6 64 (0:Int) l9 ([a5].getD (A3 (([a5].length:Int)-1)).toNat (0:Int)).toNat (A3 ((l9.getD ([a5].getD (A3 (([a5].length:Int)-1)).toNat (0:Int)).toNat (0:Int))+1)))))))))))) else(some (.done (.inl l9))))))
def G0(aM:C5)(l1:List Bool)(l3:Ad):Ad->Option wY:=
 λ(l32:Ad)=>(Az (Ay (l3.getD (A3 ((l3.length:Int)-1)).toNat (0:Int)) 64) (Az (Ay (l3.getD (A3 ((l3.length:Int)-1)).toNat (0:Int)) aM.Succ.length) (bif (decide ((l32.getD (l3.getD (A3 ((l3.length:Int)-1)).toNat (0:Int)).toNat (0:Int))<((aM.Succ.getD (l3.getD (A3 ((l3.length:Int)-1)).toNat (0:Int)).toNat []).length:Int))) then(Az (Ay (l3.getD (A3 ((l3.length:Int)-1)).toNat (0:Int)) aM.Succ.length) (Az (Ay (l3.getD (A3 ((l3.length:Int)-1)).toNat (0:Int)) 64) (Az (Ay (l32.getD (l3.getD (A3 ((l3.length:Int)-1)).toNat (0:Int)).toNat (0:Int)) (aM.Succ.getD (l3.getD (A3 ((l3.length:Int)-1)).toNat (0:Int)).toNat []).length) (Az (Ay (l3.getD (A3 ((l3.length:Int)-1)).toNat (0:Int)) 64) (Az (Ay (l3.getD (A3 ((l3.length:Int)-1)).toNat (0:Int)) 64) (Az (Ay ((aM.Succ.getD (l3.getD (A3 ((l3.length:Int)-1)).toNat (0:Int)).toNat []).getD (l32.getD (l3.getD (A3 ((l3.length:Int)-1)).toNat (0:Int)).toNat (0:Int)).toNat (0:Int)) 64) (bif (!(l1.getD ((aM.Succ.getD (l3.getD (A3 ((l3.length:Int)-1)).toNat (0:Int)).toNat []).getD (l32.getD (l3.getD (A3 ((l3.length:Int)-1)).toNat (0:Int)).toNat (0:Int)).toNat (0:Int)).toNat false)) then(Az (Ay ((aM.Succ.getD (l3.getD (A3 ((l3.length:Int)-1)).toNat (0:Int)).toNat []).getD (l32.getD (l3.getD (A3 ((l3.length:Int)-1)).toNat (0:Int)).toNat (0:Int)).toNat (0:Int)) 64) (Az (l3.length+([((aM.Succ.getD (l3.getD (A3 ((l3.length:Int)-1)).toNat (0:Int)).toNat []).getD (l32.getD (l3.getD (A3 ((l3.length:Int)-1)).toNat (0:Int)).toNat (0:Int)).toNat (0:Int))]:Ad).length<=room) (some (.done (.inr ((M6 64 false l1 ((aM.Succ.getD (l3.getD (A3 ((l3.length:Int)-1)).toNat (0:Int)).toNat []).getD (l32.getD (l3.getD (A3 ((l3.length:Int)-1)).toNat (0:Int)).toNat (0:Int)).toNat (0:Int)).toNat true),(M6 64 (0:Int) l32 (l3.getD (A3 ((l3.length:Int)-1)).toNat (0:Int)).toNat (A3 ((l32.getD (l3.getD (A3 ((l3.length:Int)-1)).toNat (0:Int)).toNat (0:Int))+1))),(l3++([((aM.Succ.getD (l3.getD (A3 ((l3.length:Int)-1)).toNat (0:Int)).toNat []).getD (l32.getD (l3.getD (A3 ((l3.length:Int)-1)).toNat (0:Int)).toNat (0:Int)).toNat (0:Int))]:Ad)))))))) else(some (.next (M6 64 (0:Int) l32 (l3.getD (A3 ((l3.length:Int)-1)).toNat (0:Int)).toNat (A3 ((l32.getD (l3.getD (A3 ((l3.length:Int)-1)).toNat (0:Int)).toNat (0:Int))+1)))))))))))) else(some (.done (.inl l32))))))
abbrev nR:=(List Bool×Ad×Ad×Ad)
def Dp(aM:C5):nR->Option (LR (List Bool×Ad×Ad×Ad) Ad):=
 λ(s_:nR)=>match s_ with|(l1,l2,l3,l4)=>(Az (Ay (A3 ((l3.length:Int)-1)) l3.length) ((Af (G0 aM l1 l3) l2).bind (λx47=>(match x47 with|(.inl l33)=>(Az (l4.length+([(l3.getD (A3 ((l3.length:Int)-1)).toNat (0:Int))]:Ad).length<=room) (Az (0<=(A3 ((l3.length:Int)-1))/\0+(A3 ((l3.length:Int)-1)).toNat<=l3.length) (bif (decide ((0:Int)<((l3.take (A3 ((l3.length:Int)-1)).toNat).length:Int))) then(some (.next (l1,l33,(l3.take (A3 ((l3.length:Int)-1)).toNat),(l4++([(l3.getD (A3 ((l3.length:Int)-1)).toNat (0:Int))]:Ad))))) else((Ea (l4++([(l3.getD (A3 ((l3.length:Int)-1)).toNat (0:Int))]:Ad))).bind λx51=>(Az ((l4++([(l3.getD (A3 ((l3.length:Int)-1)).toNat (0:Int))]:Ad)).length=x51.length) (some (.done x51)))))))|(.inr (l34,l35,l36))=>(some (.next (l34,l35,l36,l4)))))))
def RY(Γ:G8)(aM:C5)(a5:Int)(r:Ad):Exit->St->Prop:=fK Tryz.prog Γ Tryz.f141.results.toList [] (WO r 20000) [(20000,.tok 1 3 r.length)]
def uY(l1:List Bool):=(λi=>eB (l1.getD i false))
def j6(l3:Ad):=(l3.getD (A3 ((l3.length:Int)-1)).toNat (0:Int))
def kV(l4:Ad)(l3:Ad):=(l4++([(j6 l3)]:Ad))
def vG(l10:Ad):=(λi=>Ao (l10.getD i 0))
def vR(l33:Ad):=(λi=>Ao (l33.getD i 0))
def cz:=(λn_=>Bp n_ [2,5,6,25,36007])
def sj(a5:Int):=(λi=>Ao ([a5].getD i 0))
def fg(a5:Int):=([a5].getD (A3 (([a5].length:Int)-1)).toNat (0:Int))
def oG(a5:Int):=(([]:Ad)++([(fg a5)]:Ad))
def ua(a5:Int):=(λi=>Ao ((oG a5).getD i 0))
def uZ(l4:Ad)(l3:Ad):=(λi=>Ao ((kV l4 l3).getD i 0))
def uX:AV:=ks
def wz:=(λi=>Ao (([]:Ad).getD i 0))
def si(l3:Ad):=(0+(A3 ((l3.length:Int)-1)).toNat)
def uW(a5:Int):=(0+(A3 (([a5].length:Int)-1)).toNat)
def xV(a5:Int):=([a5].take (A3 (([a5].length:Int)-1)).toNat)
def xS:=(λi=>Ao ((List.replicate 64 (0:Int)).getD i 0))
def kP(aM:C5):List AV:=[(JK aM.Succ),(JK aM.Pred)]
def re(a5:Int):=(λi=>eB ((M6 64 false (List.replicate 64 false) a5.toNat true).getD i false))
def oF(aM:C5)(l3:Ad)(l32:Ad):=((aM.Succ.getD (j6 l3).toNat []).getD (l32.getD (j6 l3).toNat (0:Int)).toNat (0:Int))
def oE(aM:C5)(a5:Int)(l9:Ad):=((aM.Succ.getD (fg a5).toNat []).getD (l9.getD (fg a5).toNat (0:Int)).toNat (0:Int))
def yN:=(Z138:St)
def yO(a5:Int):List ju:=[AG,NH,NG,(7,(.vsl 36007 (oG a5).length)),(8,(.vsl 25 (uW a5)))]
def yM(a5:Int)(aM:C5):=(⟨[AG,NH,NG,(7,(.vsl 36007 ([]:Ad).length)),(8,(.vsl 25 [a5].length)),(9,(Aq (fg a5)))],[(2,.row 97 (kP aM)),(NI (re a5)),(LF xS),(25,.arr 1 3 ([a5].length) (sj a5)),(36007,.arr 1 3 (([]:Ad).length) wz)],[]⟩:St)
def H3(aM:C5)(a5:Int):Option Ad:=
 ((Ms (S:=nR) (X:=Ad) ((Su aM).bind λx5=>((bif ((!x5)==false) then Hl a5 (aM.Succ.length:Int) else some false).bind λx6=>(bif (bif (!x5) then true else(!x6)) then(some (.done ([]:Ad))) else(Az (Ay a5 64) (Az (Ay (A3 (([a5].length:Int)-1)) [a5].length) ((Af (HK aM a5) (List.replicate 64 (0:Int))).bind (λx24=>(match x24 with|(.inl l10)=>(Az (([]:Ad).length+([([a5].getD (A3 (([a5].length:Int)-1)).toNat (0:Int))]:Ad).length<=room) (Az (0<=(A3 (([a5].length:Int)-1))/\0+(A3 (([a5].length:Int)-1)).toNat<=[a5].length) (bif (decide ((0:Int)<(([a5].take (A3 (([a5].length:Int)-1)).toNat).length:Int))) then(some (.next ((M6 64 false (List.replicate 64 false) a5.toNat true),l10,([a5].take (A3 (([a5].length:Int)-1)).toNat),(([]:Ad)++([([a5].getD (A3 (([a5].length:Int)-1)).toNat (0:Int))]:Ad))))) else((Ea (([]:Ad)++([([a5].getD (A3 (([a5].length:Int)-1)).toNat (0:Int))]:Ad))).bind λx28=>(Az ((([]:Ad)++([([a5].getD (A3 (([a5].length:Int)-1)).toNat (0:Int))]:Ad)).length=x28.length) (some (.done x28)))))))|(.inr (l11,l12,l13))=>(some (.next (l11,l12,l13,([]:Ad)))))))))))) (Dp aM)).bind (λx54=>(some x54)))
theorem Y7(h:H3 v18 v1=some v2):sP 141 [(.agg (Sn v18)),(Aq v1)] [] (WO v2 20000) [(20000,.tok 1 3 v2.length)]:=
 sG Tryz.func141 λΓ q=>have hΓ:=q.own;gR q R9 [2] [(4,uX)] [] (c1 (Be 1 Ao (0:Int))) (tB h λx54 y54 h=>gS y54 (λ(s_:nR)=>match s_ with|(l1,l2,l3,l4)=>0) (λ(s_:nR)=>match s_ with|(l1,l2,l3,l4)=>(⟨[AG,NH,NG,(7,(.vsl 36007 l4.length)),(8,(.vsl 25 l3.length))],[(2,.row 97 (kP v18)),(NI (uY l1)),(vj l2),(Tb 25 l3),(Tb 36007 l4)],[]⟩:St)) (λr_=>aR (RY Γ v18 v1 r_)) (λy h=>tB h λx5 y5 h=>tB h λx6 y6 h=>tT q [1,2,21] [2] [(Z9 x5),(Z9 x6)] (ci (XO y5) (tk ((!x5)==false) (c3 (λ(hg:((!x5)==false)=true)=>(Oy (B4 hg y6))) (gI ((!x5)==false)) (Pv (!x5))))) (gC h (λh=>gR q [4] [] [(4,uX)] [] (c1 (Be 1 Ao (0:Int))) (O8 (⟨[(4,uX)],[],[]⟩:St) (tS h (JT (Oa (Hd fQ (show Le Γ _ yN from Le.trans (Bs (st':=⟨[(4,uX)],[],[]⟩) [4] [] q) (Le.trans (Oq (t:=4) (nm:=6004) (sz':=1) wz 3 rfl rfl (.inl ⟨rfl,rfl⟩) (λh_=>absurd h_ (by decide))) (Bs (st':=yN) [4] [6004] q))))))))) λh=>gR q JE [2,5] [NH] [] trivial (Ka (Pa 5 (show ∀ k_,k_<64->AVleL ((λi_=>AV.eraseAll (λn_=>Bp n_ [2,5]) ((λi=>(((List.replicate 64 [(.bool false)]).flatten).drop (i*1)).take 1) i_)) k_) ((λi=>eB ((List.replicate 64 false).getD i false)) k_) from(TP (e:=eB) (d:=false) (z:=[(.bool false)]) rfl rfl rfl))) (gR q [1,2,5,6] T0 [NG] [] trivial (Ka (Pa 6 (show ∀ k_,k_<64->AVleL ((λi_=>AV.eraseAll (λn_=>Bp n_ T0) ((λi=>(((List.replicate 64 [In]).flatten).drop (i*1)).take 1) i_)) k_) (xS k_) from(TP (e:=Ao) (d:=(0:Int)) (z:=[In]) rfl rfl rfl))) (gR q [1,2,5,6,7] T0 [(7,uX)] [] (c1 (Be 1 Ao (0:Int))) (tC h λc7_ h=>tU q [1,2,5,6,7] T0 (c2 c7_ (Eq.refl 64)) (Ka (Pa 5 (show ∀ k_,k_<64->AVleL ((λi_=>AV.eraseAll (λn_=>Bp n_ T0) ((Il (λi=>eB ((List.replicate 64 false).getD i false)) v1.toNat 0 [(.bool true)]) i_)) k_) ((re v1) k_) from(A8 rfl (λk_ hk_=>(Bn (AV.eraseAll (λn_=>Bp n_ T0)) ((Uu (λ_ _=>rfl) (So c7_) rfl) k_ hk_)).trans rfl)))) (gR q AD ZA [(25,(.vsl 25 1))] [] trivial (Ka (Le.trans (Pa 25 (show ∀ k_,k_<1->AVleL ((λi_=>AV.eraseAll (λn_=>Bp n_ ZA) ((λi_=>([(Aq v1)].drop (i_*1)).take 1) i_)) k_) ((sj v1) k_) from(A8 rfl (XZ (n:=0) eM rfl)))) (Pb (λ(k_:Nat) u=>(Dv u [(8,(.vsl 25 k_))] [(25,.arr 1 3 k_ (sj v1))])) (show 1=[v1].length from rfl))) (tC h λc8_ h=>tU q CR ZA (c2 c8_ (Eq.refl ([v1].length))) (Ka (st':=(yM v1 v18)) (Le.trans (Bs (st':=⟨[AG,NH,NG,(7,uX),(8,(.vsl 25 [v1].length)),(9,(Aq (fg v1)))],[(2,.row 97 (kP v18)),(NI (re v1)),(LF xS),(25,.arr 1 3 ([v1].length) (sj v1))],[]⟩) CR ZA q) (Le.trans (OM (t:=7) (nm:=36007) (sz':=1) wz 3 rfl rfl) (Bs (st':=(yM v1 v18)) CR He q))) (tL q h CR He (λu l9=>(Dv u [] [(vj l9)])) (λu x_=>match x_ with|(.inl l10)=>aG Γ (.exit 0) (Dv u [] [(LF (vG l10))])|(.inr (l11,l12,l13))=>aG Γ (.goto 0) (V4 AD He u [(8,(.vsl 25 l13.length))] [(5,.arr 1 212 64 (λi=>eB (l11.getD i false))),(vj l12),(Tb 25 l13)])) (λl9 y h=>tC h λc14_ h=>tC h λc15_ h=>tU q [2,5,6,7,8,9,41] He (c3 c14_ (Eq.refl 64) c15_) (gC h (λh=>tC h λc16_ h=>tC h λc17_ h=>tC h λc18_ h=>tU q YN He (c4 c16_ c17_ (Eq.refl 64) c18_) (tC h λc19_ h=>tC h λc20_ h=>tU q YN He (c4 c19_ (Eq.refl 64) c20_ (Eq.refl 64)) (Ka (Pa 6 (show ∀ k_,k_<64->AVleL ((λi_=>AV.eraseAll cz ((Il (λi=>Ao (l9.getD i 0)) (fg v1).toNat 0 [(.int .i64 (A3 ((l9.getD (fg v1).toNat (0:Int))+1)))]) i_)) k_) ((λi=>Ao ((M6 64 (0:Int) l9 (fg v1).toNat (A3 ((l9.getD (fg v1).toNat (0:Int))+1))).getD i 0)) k_) from(A8 rfl (λk_ hk_=>(Bn (AV.eraseAll cz) ((Uu (λ_ _=>rfl) (So c20_) rfl) k_ hk_)).trans rfl)))) (tC h λc21_ h=>tU q ny He (c2 c21_ (Eq.refl 64)) (gC h (λh=>tC h λc22_ h=>tU q [2,5,6,7,8,10] He (c2 c22_ (Eq.refl 64)) (Ka (Pa 5 (show ∀ k_,k_<64->AVleL ((λi_=>AV.eraseAll cz ((Il (re v1) (oE v18 v1 l9).toNat 0 [(.bool true)]) i_)) k_) ((λi=>eB ((M6 64 false (M6 64 false (List.replicate 64 false) v1.toNat true) (oE v18 v1 l9).toNat true).getD i false)) k_) from(A8 rfl (λk_ hk_=>(Bn (AV.eraseAll cz) ((Uu (λ_ _=>rfl) (So c22_) rfl) k_ hk_)).trans rfl)))) (tC h λc23_ h=>gR q AD He [(65,(pW (oE v18 v1 l9)))] [] (c3 (A0 1 Ao (0:Int) ([(oE v18 v1 l9)]:Ad)) (Eq.refl ([v1].length)) c23_) (tS h (gO (B0 (Le.trans (Le.trans (Pa 25 (show ∀ k_,k_<([v1].length+([(oE v18 v1 l9)]:Ad).length)->AVleL ((λi_=>AV.eraseAll cz ((K2 ([v1].length) (sj v1) (λi=>Ao (([(oE v18 v1 l9)]:Ad).getD i 0))) i_)) k_) ((λi=>Ao (([v1]++([(oE v18 v1 l9)]:Ad)).getD i 0)) k_) from(A8 (D2 _ _) (λk_ hk_=>(Bn (AV.eraseAll cz) ((T7 (λ_ _=>rfl) (λ_ _=>rfl)) k_ hk_)).trans rfl)))) (Pb (λ(k_:Nat) u=>(Dv u [(8,(.vsl 25 k_))] [(25,.arr 1 3 k_ (λi=>Ao (([v1]++([(oE v18 v1 l9)]:Ad)).getD i 0)))])) (show([v1].length+([(oE v18 v1 l9)]:Ad).length)=([v1]++([(oE v18 v1 l9)]:Ad)).length from(D2 _ _)))) Kb))))))) λh=>tS h (gN (Bs CR He q))))))) λh=>tS h (gO (B0 (Bs CR He q))))) λx24 h=>(match x24,h with | .inl l10,h=>gA (tC h λc26_ h=>gR q AD He [(69,(pW (fg v1)))] [] (c3 (A0 1 Ao (0:Int) ([(fg v1)]:Ad)) (Eq.refl (([]:Ad).length)) c26_) (Ka (Le.trans (Pa 36007 (show ∀ k_,k_<(([]:Ad).length+([(fg v1)]:Ad).length)->AVleL ((λi_=>AV.eraseAll cz ((K2 (([]:Ad).length) wz (λi=>Ao (([(fg v1)]:Ad).getD i 0))) i_)) k_) ((ua v1) k_) from(A8 (D2 _ _) (λk_ hk_=>(Bn (AV.eraseAll cz) ((T7 (λ_ _=>rfl) (λ_ _=>rfl)) k_ hk_)).trans rfl)))) (Pb (λ(k_:Nat) u=>(Dv u (Vd 36007 k_) [(36007,.arr 1 3 k_ (ua v1))])) (show(([]:Ad).length+([(fg v1)]:Ad).length)=(oG v1).length from(D2 _ _)))) (tC h λc27_ h=>tU q AD He (c1 c27_) (O8 (⟨[AG,NH,NG,(7,(.vsl 36007 (oG v1).length)),(8,(.vsub 25 [v1].length 0 (uW v1)))],[(2,.row 97 (kP v18)),(NI (re v1)),(LF (vG l10)),(25,.arr 1 3 ([v1].length) (sj v1)),(36007,.arr 1 3 ((oG v1).length) (ua v1))],[]⟩:St) (Ka (Le.trans (Le.trans (bS (t:=8) (r:=25) (k:=(uW v1)) rfl rfl c27_.2 (by kernel_rfl) (.row (by kernel_rfl) (.arr (λ_=>by kernel_rfl) (.arr (λ_=>by kernel_rfl) (.arr (λ_=>by kernel_rfl) (.arr (λ_=>by kernel_rfl) .nil))))) (by rw[hΓ];rfl)) (Kc (st':=⟨(yO v1),[(2,.row 97 (kP v18)),(NI (re v1)),(LF (vG l10)),(25,.arr 1 3 (uW v1) (sj v1)),(36007,.arr 1 3 ((oG v1).length) (ua v1))],[]⟩) (by kernel_rfl))) (Le.trans (Ng (st':=⟨(yO v1),[(2,.row 97 (kP v18)),(NI (re v1)),(LF (vG l10)),(25,.arr 1 3 (uW v1) (λi=>Ao ((xV v1).getD i 0))),(36007,.arr 1 3 ((oG v1).length) (ua v1))],[]⟩) (TmpsLe.refl _) (.same (.same (.same (.arr (g8 (e:=Ao) (d:=(0:Int))) (.same .nil)))))) (Kc (Bn (λk_:Nat=>(⟨[AG,NH,NG,(7,(.vsl 36007 (oG v1).length)),(8,(.vsl 25 k_))],[(2,.row 97 (kP v18)),(NI (re v1)),(LF (vG l10)),(25,.arr 1 3 k_ (λi=>Ao ((xV v1).getD i 0))),(36007,.arr 1 3 ((oG v1).length) (ua v1))],[]⟩:St)) (show(uW v1)=(xV v1).length from cW c27_.2))))) (Ag q [2,5,6,7,8,78] He (gC h (λh=>tS h (dk (Bs AD He q))) λh=>tB h λx28 y28 h=>tC h λc29_ h=>tT q [7] [36007] [⟨[(36007,34000)],[],(.tuple []),[(Tb 34000 x28)],[],[]⟩] (c1 (Ll y28)) (Ka (Pb (λ(k_:Nat) u=>(Dv u (Vd 36007 k_) [])) (show(oG v1).length=x28.length from c29_)) (Ag q [4] [36007] (O8 ((kq 36007 x28.length x28):St) (tS h (JT (Oa (Hd [(36007,20000)] (Le.trans (Fg (nm:=36007) (sz:=1) (n:=x28.length) (e:=3) (f:=(λi=>Ao (x28.getD i 0))) (g:=(λi=>Ao (x28.getD i 0))) rfl ⟨rfl,trivial⟩ (λ_ _=>rfl) (by rw[hΓ];rfl)) (Kc (st':=(kp x28 36007 x28.length)) (by kernel_rfl))))))))))))))))) | .inr ⟨l11,l12,l13⟩,h=>bL (λst' hl30=>tS h (dk (Le.trans hl30 Kb))))))))))))))))) (λ⟨l1,l2,l3,l4⟩ y h=>tC h λc31_ h=>tU q CR He (c2 c31_ (Eq.refl l3.length)) (tL q h CR He (λu l32=>(Dv u [] [(vj l32)])) (λu x_=>match x_ with|(.inl l33)=>aG Γ (.exit 0) (Dv u [] [(LF (vR l33))])|(.inr (l34,l35,l36))=>aG Γ (.goto 0) (V4 AD He u [(8,(.vsl 25 l36.length))] [(5,.arr 1 212 64 (λi=>eB (l34.getD i false))),(vj l35),(Tb 25 l36)])) (λl32 y h=>tC h λc37_ h=>tC h λc38_ h=>tU q [2,5,6,7,8,9,41] He (c3 c37_ (Eq.refl 64) c38_) (gC h (λh=>tC h λc39_ h=>tC h λc40_ h=>tC h λc41_ h=>tU q YN He (c4 c39_ c40_ (Eq.refl 64) c41_) (tC h λc42_ h=>tC h λc43_ h=>tU q YN He (c4 c42_ (Eq.refl 64) c43_ (Eq.refl 64)) (Ka (Pa 6 (show ∀ k_,k_<64->AVleL ((λi_=>AV.eraseAll cz ((Il (λi=>Ao (l32.getD i 0)) (j6 l3).toNat 0 [(.int .i64 (A3 ((l32.getD (j6 l3).toNat (0:Int))+1)))]) i_)) k_) ((λi=>Ao ((M6 64 (0:Int) l32 (j6 l3).toNat (A3 ((l32.getD (j6 l3).toNat (0:Int))+1))).getD i 0)) k_) from(A8 rfl (λk_ hk_=>(Bn (AV.eraseAll cz) ((Uu (λ_ _=>rfl) (So c43_) rfl) k_ hk_)).trans rfl)))) (tC h λc44_ h=>tU q ny He (c2 c44_ (Eq.refl 64)) (gC h (λh=>tC h λc45_ h=>tU q [2,5,6,7,8,10] He (c2 c45_ (Eq.refl 64)) (Ka (Pa 5 (show ∀ k_,k_<64->AVleL ((λi_=>AV.eraseAll cz ((Il (uY l1) (oF v18 l3 l32).toNat 0 [(.bool true)]) i_)) k_) ((λi=>eB ((M6 64 false l1 (oF v18 l3 l32).toNat true).getD i false)) k_) from(A8 rfl (λk_ hk_=>(Bn (AV.eraseAll cz) ((Uu (λ_ _=>rfl) (So c45_) rfl) k_ hk_)).trans rfl)))) (tC h λc46_ h=>gR q AD He [(65,(pW (oF v18 l3 l32)))] [] (c3 (A0 1 Ao (0:Int) ([(oF v18 l3 l32)]:Ad)) (Eq.refl l3.length) c46_) (tS h (gO (B0 (Le.trans (Le.trans (Pa 25 (show ∀ k_,k_<(l3.length+([(oF v18 l3 l32)]:Ad).length)->AVleL ((λi_=>AV.eraseAll cz ((K2 l3.length (λi=>Ao (l3.getD i 0)) (λi=>Ao (([(oF v18 l3 l32)]:Ad).getD i 0))) i_)) k_) ((λi=>Ao ((l3++([(oF v18 l3 l32)]:Ad)).getD i 0)) k_) from(A8 (D2 _ _) (λk_ hk_=>(Bn (AV.eraseAll cz) ((T7 (λ_ _=>rfl) (λ_ _=>rfl)) k_ hk_)).trans rfl)))) (Pb (λ(k_:Nat) u=>(Dv u [(8,(.vsl 25 k_))] [(25,.arr 1 3 k_ (λi=>Ao ((l3++([(oF v18 l3 l32)]:Ad)).getD i 0)))])) (show(l3.length+([(oF v18 l3 l32)]:Ad).length)=(l3++([(oF v18 l3 l32)]:Ad)).length from(D2 _ _)))) Kb))))))) λh=>tS h (gN (Bs CR He q))))))) λh=>tS h (gO (B0 (Bs CR He q))))) λx47 h=>(match x47,h with | .inl l33,h=>gA (tC h λc49_ h=>gR q AD He [(69,(pW (j6 l3)))] [] (c3 (A0 1 Ao (0:Int) ([(j6 l3)]:Ad)) (Eq.refl l4.length) c49_) (Ka (Le.trans (Pa 36007 (show ∀ k_,k_<(l4.length+([(j6 l3)]:Ad).length)->AVleL ((λi_=>AV.eraseAll cz ((K2 l4.length (λi=>Ao (l4.getD i 0)) (λi=>Ao (([(j6 l3)]:Ad).getD i 0))) i_)) k_) ((uZ l4 l3) k_) from(A8 (D2 _ _) (λk_ hk_=>(Bn (AV.eraseAll cz) ((T7 (λ_ _=>rfl) (λ_ _=>rfl)) k_ hk_)).trans rfl)))) (Pb (λ(k_:Nat) u=>(Dv u (Vd 36007 k_) [(36007,.arr 1 3 k_ (uZ l4 l3))])) (show(l4.length+([(j6 l3)]:Ad).length)=(kV l4 l3).length from(D2 _ _)))) (tC h λc50_ h=>tU q AD He (c1 c50_) (O8 (⟨[AG,NH,NG,(7,(.vsl 36007 (kV l4 l3).length)),(8,(.vsub 25 l3.length 0 (si l3)))],[(2,.row 97 (kP v18)),(NI (uY l1)),(LF (vR l33)),(Tb 25 l3),(36007,.arr 1 3 ((kV l4 l3).length) (uZ l4 l3))],[]⟩:St) (Ka (Le.trans (Le.trans (bS (t:=8) (r:=25) (k:=(si l3)) rfl rfl c50_.2 (by kernel_rfl) (.row (by kernel_rfl) (.arr (λ_=>by kernel_rfl) (.arr (λ_=>by kernel_rfl) (.arr (λ_=>by kernel_rfl) (.arr (λ_=>by kernel_rfl) .nil))))) (by rw[hΓ];rfl)) (Kc (st':=⟨[AG,NH,NG,(7,(.vsl 36007 (kV l4 l3).length)),(8,(.vsl 25 (si l3)))],[(2,.row 97 (kP v18)),(NI (uY l1)),(LF (vR l33)),(25,.arr 1 3 (si l3) (λi=>Ao (l3.getD i 0))),(36007,.arr 1 3 ((kV l4 l3).length) (uZ l4 l3))],[]⟩) (by kernel_rfl))) (Le.trans (Ng (st':=⟨[AG,NH,NG,(7,(.vsl 36007 (kV l4 l3).length)),(8,(.vsl 25 (si l3)))],[(2,.row 97 (kP v18)),(NI (uY l1)),(LF (vR l33)),(25,.arr 1 3 (si l3) (λi=>Ao ((l3.take (A3 ((l3.length:Int)-1)).toNat).getD i 0))),(36007,.arr 1 3 ((kV l4 l3).length) (uZ l4 l3))],[]⟩) (TmpsLe.refl _) (.same (.same (.same (.arr (g8 (e:=Ao) (d:=(0:Int))) (.same .nil)))))) (Kc (Bn (λk_:Nat=>(⟨[AG,NH,NG,(7,(.vsl 36007 (kV l4 l3).length)),(8,(.vsl 25 k_))],[(2,.row 97 (kP v18)),(NI (uY l1)),(LF (vR l33)),(25,.arr 1 3 k_ (λi=>Ao ((l3.take (A3 ((l3.length:Int)-1)).toNat).getD i 0))),(36007,.arr 1 3 ((kV l4 l3).length) (uZ l4 l3))],[]⟩:St)) (show(si l3)=(l3.take (A3 ((l3.length:Int)-1)).toNat).length from cW c50_.2))))) (Ag q [2,5,6,7,8,78] He (gC h (λh=>tS h (dk (Bs AD He q))) λh=>tB h λx51 y51 h=>tC h λc52_ h=>tT q [7] [36007] [⟨[(36007,34000)],[],(.tuple []),[(Tb 34000 x51)],[],[]⟩] (c1 (Ll y51)) (Ka (Pb (λ(k_:Nat) u=>(Dv u (Vd 36007 k_) [])) (show(kV l4 l3).length=x51.length from c52_)) (Ag q [4] [36007] (O8 ((kq 36007 x51.length x51):St) (tS h (JT (Oa (Hd [(36007,20000)] (Le.trans (Fg (nm:=36007) (sz:=1) (n:=x51.length) (e:=3) (f:=(λi=>Ao (x51.getD i 0))) (g:=(λi=>Ao (x51.getD i 0))) rfl ⟨rfl,trivial⟩ (λ_ _=>rfl) (by rw[hΓ];rfl)) (Kc (st':=(kp x51 36007 x51.length)) (by kernel_rfl))))))))))))))))) | .inr ⟨l34,l35,l36⟩,h=>bL (λst' hl53=>tS h (dk (Le.trans hl53 Kb)))))) (gAr (λst' hk=>tS h (gK hk))))
def FI(aC:Int)(aaA:Int):Option G2:=
 (some ((Du ((Du ((Du ((R3 .u64 aC (32:Int))*(R3 .u64 aaA (32:Int))))+(R3 .u64 (Du ((Du ((R3 .u64 aC (32:Int))*(Oe .and .u64 aaA (4294967295:Int))))+(R3 .u64 (Du ((Oe .and .u64 aC (4294967295:Int))*(Oe .and .u64 aaA (4294967295:Int)))) (32:Int)))) (32:Int))))+(R3 .u64 (Du ((Oe .and .u64 (Du ((Du ((R3 .u64 aC (32:Int))*(Oe .and .u64 aaA (4294967295:Int))))+(R3 .u64 (Du ((Oe .and .u64 aC (4294967295:Int))*(Oe .and .u64 aaA (4294967295:Int)))) (32:Int)))) (4294967295:Int))+(Du ((Oe .and .u64 aC (4294967295:Int))*(R3 .u64 aaA (32:Int)))))) (32:Int)))),(Du (aC*aaA))))
variable{v19:G2}
theorem SP(h:FI v1 v11=some v19):sP 213 (X9 v1 v11) [] (.tuple (X9 v19.1 v19.2)) []:=
 sG Tryz.func213 λΓ q=>tW q Cy [] JF [] (tU q RK [] (c1 (show(0<=(32:Int)) from(by decide))) (Ag q RH [] (tU q [0,1,6,7,8,9] [] (c1 (show(0<=(32:Int)) from(by decide))) (Ag q [0,1,6,7,8,9,10] [] (tU q [0,1,6,7,9,11] [] (c1 (show(0<=(32:Int)) from(by decide))) (Ag q [0,1,6,7,9,11,12] [] (tU q [0,1,6,7,9,12,13] [] (c1 (show(0<=(32:Int)) from(by decide))) (Ag q [0,1,7,9,12,13] [] (tU q JG [] (c1 (show(0<=(32:Int)) from(by decide))) (Ag q Gx [] (tS h (Bj []))))))))))))
def Ml(aC:Int)(aaA:Int):Option G2:=
 ((FI aC aaA).bind λx1=>(some (x1.1,x1.2)))
theorem Y1(h:Ml v1 v11=some v19):sP 189 (X9 v1 v11) [] (.tuple (X9 v19.1 v19.2)) []:=
 sG Tryz.func189 λΓ q=>Ag q Cy [] (BK false (tB h λx1 y1 h=>tT q O5 [] [⟨[],[],(.tuple (X9 x1.1 x1.2)),[],[],[]⟩] (c1 (SP y1)) (Ag q Gx [] (tS h (Bj [])))))
abbrev BR:=(Int×Ad)
abbrev rJ:=(LR (Int×Ad) Ad)
def Ck :BR->Option rJ:=
 λ((i7,l8):BR)=>(bif (decide (i7<(l8.length:Int))) then(Az (0<=i7/\0+i7.toNat<=l8.length) (Az (0<=i7/\0+i7.toNat<=l8.length) (some (.next ((A3 (i7+((Nat.min ((0+i7.toNat)-0) (l8.length-(0+i7.toNat))):Int))),(WX l8 (0+i7.toNat) (Nat.min ((0+i7.toNat)-0) (l8.length-(0+i7.toNat))) (λi=>l8.getD (0+i) 0))))))) else(some (.done l8)))
def kX(x3:G2):=(List.replicate (A3 x3.2).toNat (0:Int))
def xX(x3:G2)(aC:Ad):=(WX (kX x3) 0 (Nat.min aC.length ((kX x3).length-0)) (λi=>aC.getD i 0))
def xW(l8:Ad)(i7:Int):=(WX l8 (0+i7.toNat) (Nat.min ((0+i7.toNat)-0) (l8.length-(0+i7.toNat))) (λi=>l8.getD (0+i) 0))
def Gb(aC:Ad)(aaB:Int):Option Ad:=
 (Option.bind (α:=Unit) (bif (decide (aaB<0)) then none else(some ())) (λx1=>(match x1 with|_=>((Ml (Du (aC.length:Int)) (Du aaB)).bind λx3=>(Option.bind (α:=Unit) (bif (bif (decide ((0:Int)<x3.1)) then true else(decide ((9223372036854775807:Int)<x3.2))) then none else(some ())) (λx4=>(match x4 with|_=>(Az (0<=(A3 x3.2)/\(A3 x3.2)<=(A3 x3.2)/\(A3 x3.2)<=(room:Int)) ((Af (S:=BR) (X:=Ad) Ck (((Nat.min aC.length ((List.replicate (A3 x3.2).toNat (0:Int)).length-0)):Int),(WX (List.replicate (A3 x3.2).toNat (0:Int)) 0 (Nat.min aC.length ((List.replicate (A3 x3.2).toNat (0:Int)).length-0)) (λi=>aC.getD i 0)))).bind (λx12=>(some x12)))))))))))
theorem Tw(h:Gb v2 v1=some v17):sP 177 [(Lo v2),(Aq v1)] [] (.vsl 20000 v17.length) [(Tb 20000 v17)]:=
 sG Tryz.func177 λΓ q=>gR q Cy [] [(4,ks)] [] (c1 (Be 1 Ao (0:Int))) (tB h λx1 y1 h=>gJ y1 (λ_=>aG Γ .normal (⟨[(0,(Lo v2)),(1,(Aq v1))],[],[]⟩:St)) (λy h=>Ag q V7 [] (gC h (λh=>nomatch h) λh=>tS h (gK (B0 (Bs Cy [] q))))) (gA (tB h λx3 y3 h=>tT q [0,5,6] [] [⟨[],[],(.tuple (X9 x3.1 x3.2)),[],[],[]⟩] (c1 (Y1 y3)) (tB h λx4 y4 h=>gJ y4 (λ_=>aG Γ .normal (⟨[(0,(Lo v2)),(6,(M4 x3.2))],[],[]⟩:St)) (λy h=>tU q [0,6,26] [] (c2 (gI ((decide ((0:Int)<x3.1))==false)) (Pv (decide ((0:Int)<x3.1)))) (gC h (λh=>nomatch h) λh=>tS h (gK (B0 (Bs [0,6] [] q))))) (gA (tV q [0,7] [30] h λh=>by exact Ka (Le.trans (Pa 30 (show ∀ k_,k_<((A3 x3.2).toNat)->AVleL ((λi_=>AV.eraseAll (λn_=>Bp n_ [30]) ((λ_=>[In]) i_)) k_) ((λi=>Ao ((kX x3).getD i 0)) k_) from(λk hk=>K8 (e:=Ao) (d:=(0:Int)) (.cons (AVle.refl _) .nil) _ k (Lb hk)))) (Pb (λ(k_:Nat) u=>(Dv u (Vd 30 k_) [(30,.arr 1 3 k_ (λi=>Ao ((kX x3).getD i 0)))])) (show(A3 x3.2).toNat=(kX x3).length from(Pu ..).symm))) (tU q Wa [30] (c1 (Eq.refl ((kX x3).length))) (Ka (Le.trans (Pa 30 (show ∀ k_,k_<((kX x3).length)->AVleL ((λi_=>AV.eraseAll (λn_=>Bp n_ [30]) ((bB (λi=>Ao ((kX x3).getD i 0)) 0 (Nat.min v2.length ((kX x3).length-0)) (λi=>Ao (v2.getD i 0))) i_)) k_) ((λi=>Ao ((xX x3 v2).getD i 0)) k_) from(A8 (Ee ..) (λk_ hk_=>(Bn (AV.eraseAll (λn_=>Bp n_ [30])) ((AQ (e:=Ao) (d:=(0:Int)) (l:=(kX x3)) (s:=(λi=>v2.getD i 0)) (λ_ _=>rfl) (λ_ _=>rfl)) k_ hk_)).trans rfl)))) (Pb (λ(k_:Nat) u=>(Dv u (Vd 30 k_) [(30,.arr 1 3 k_ (λi=>Ao ((xX x3 v2).getD i 0)))])) (show(kX x3).length=(xX x3 v2).length from(Ee ..)))) (tL q h Wa [30] (λu (i7,l8)=>(Dv u [(7,(.vsl 30 l8.length)),(8,(Aq i7))] [(Tb 30 l8)])) (λu l9=>aG Γ (.exit 0) (⟨(Vd 30 l9.length),[(Tb 30 l9)],[]⟩:St)) (λ⟨i7,l8⟩ y h=>Ag q [7,8,37] [30] (gC h (λh=>tC h λc10_ h=>tC h λc11_ h=>tU q Wa [30] (c4 c10_ c11_ (Eq.refl l8.length) (Eq.refl l8.length)) (tS h (gN (Le.trans (Le.trans (Pa 30 (show ∀ k_,k_<l8.length->AVleL ((λi_=>AV.eraseAll (λn_=>Bp n_ [30]) ((bB (λi=>Ao (l8.getD i 0)) (0+i7.toNat) (Nat.min ((0+i7.toNat)-0) (l8.length-(0+i7.toNat))) (λi=>(λi=>Ao (l8.getD i 0)) (0+i))) i_)) k_) ((λi=>Ao ((xW l8 i7).getD i 0)) k_) from(A8 (Ee ..) (λk_ hk_=>(Bn (AV.eraseAll (λn_=>Bp n_ [30])) ((AQ (e:=Ao) (d:=(0:Int)) (l:=l8) (s:=(λi=>l8.getD (0+i) 0)) (λ_ _=>rfl) (λ_ _=>rfl)) k_ hk_)).trans rfl)))) (Pb (λ(k_:Nat) u=>(Dv u (Vd 30 k_) [(30,.arr 1 3 k_ (λi=>Ao ((xW l8 i7).getD i 0)))])) (show l8.length=(xW l8 i7).length from(Ee ..)))) Kb)))) λh=>tS h (gO (B0 (Bs [7] [30] q))))) λx12 h=>gA (Ag q [4] [30] (tS h (Bj fZ))))))))))))
def H2(aL:Ad):(Int×List Bool)->Option (LR (Int×List Bool) (List Bool)):=
 λ((i2,l3):(Int×List Bool))=>(bif (i2 !=-1) then(Az (Ay i2 l3.length) (Az (Ay i2 aL.length) (some (.next ((aL.getD i2.toNat 0),(l3.set i2.toNat true)))))) else(some (.done l3)))
def Gt(aL:Ad)(l4:List Bool):Int->Option (LR Int Int):=
 λ(i9:Int)=>(Az (Ay i9 l4.length) (bif (!(l4.getD i9.toNat false)) then(Az (Ay i9 aL.length) (some (.next (aL.getD i9.toNat 0)))) else(some (.done i9))))
def Ov(aL:Ad)(aH:Int)(aD:Int):Option Int:=
 (Az (0<=(aL.length:Int)/\(aL.length:Int)<=(aL.length:Int)/\(aL.length:Int)<=(room:Int)) ((Af (H2 aL) (aH,(List.replicate (aL.length:Int).toNat false))).bind (λx7=>((Af (Gt aL x7) aD).bind (λx13=>(some x13))))))
variable{v20:Int}
theorem KC(h:Ov v2 v1 v11=some v20):sP 206 [(Lo v2),(Aq v1),(Aq v11)] [] (.int .i64 v20) []:=
 sG Tryz.func206 λΓ q=>Ag q AF [] (tV q [0,1,2,7] [11] h λh=>by exact Ka (Le.trans (Pa 11 (show ∀ k_,k_<((v2.length:Int).toNat)->AVleL ((λi_=>AV.eraseAll (λn_=>Bp n_ [11]) ((λ_=>[(.bool false)]) i_)) k_) ((λi=>eB ((List.replicate (v2.length:Int).toNat false).getD i false)) k_) from(λk hk=>K8 (e:=eB) (d:=false) (.cons (AVle.refl _) .nil) _ k (Lb hk)))) (Pb (λ(k_:Nat) u=>(Dv u (Vd 11 k_) [(11,.arr 1 4 k_ (λi=>eB ((List.replicate (v2.length:Int).toNat false).getD i false)))])) (show(v2.length:Int).toNat=(List.replicate (v2.length:Int).toNat false).length from(Pu ..).symm))) (Ag q ZG [11] (tL q h ZG [11] (λu (i2,l3)=>(Dv u [(7,(.vsl 11 l3.length)),(8,(Aq i2))] [(11,.arr 1 4 l3.length (λi=>eB (l3.getD i false)))])) (λu l4=>aG Γ (.exit 0) (V4 [0,2,7] [11] u (Vd 11 l4.length) [(11,.arr 1 4 l4.length (λi=>eB (l4.getD i false)))])) (λ⟨i2,l3⟩ y h=>Ag q [0,2,7,8,14] [11] (gC h (λh=>tC h λc5_ h=>tU q ZG [11] (c2 c5_ (Eq.refl l3.length)) (Ka (Le.trans (Pa 11 (show ∀ k_,k_<l3.length->AVleL ((λi_=>AV.eraseAll (λn_=>Bp n_ [11]) ((Il (λi=>eB (l3.getD i false)) i2.toNat 0 [(.bool true)]) i_)) k_) ((λi=>eB ((l3.set i2.toNat true).getD i false)) k_) from(A8 (Cp ..).symm (λk_ hk_=>(Bn (AV.eraseAll (λn_=>Bp n_ [11])) ((E1 (λ_ _=>rfl) (Fn c5_) rfl) k_ hk_)).trans rfl)))) (Pb (λ(k_:Nat) u=>(Dv u (Vd 11 k_) [(11,.arr 1 4 k_ (λi=>eB ((l3.set i2.toNat true).getD i false)))])) (show l3.length=(l3.set i2.toNat true).length from(Cp ..).symm))) (tV q ZG [11] h λh=>tN h))) λh=>tS h (gO (B0 (Bs [0,2,7] [11] q))))) λx7 h=>gA (tL q h [0,2,7] [11] (λu i9=>(Dv u [(2,(Aq i9))] [])) (λu i10=>aG Γ (.exit 2) (⟨[(2,(Aq i10))],[],[]⟩:St)) (λi9 y h=>tC h λc11_ h=>tU q [0,2,7,26] [11] (c2 c11_ (Eq.refl x7.length)) (gC h (λh=>tV q [0,2,7] [11] h λh=>tN h) λh=>tS h (gO (B0 (Bs [2] [] q))))) λx13 h=>gA (Ag q [6] [] (tS h (Bj [])))))))
set_option maxRecDepth 100000
set_option maxHeartbeats 2000000
def Ek(aL:Ad)(aA:Ad):G2->Option rQ:=
 λ((i1,i2):G2)=>(bif (decide (i2<(aA.length:Int))) then(Option.bind (α:=Int) (Az (Ay i2 aA.length) (Az (Ay (aA.getD i2.toNat 0) aL.length) (bif ((aL.getD (aA.getD i2.toNat 0).toNat (0:Int))==-2) then(some i1) else(bif (i1==-2) then(some (aA.getD i2.toNat 0)) else((Ov aL i1 (aA.getD i2.toNat 0)).bind λx7=>(some x7)))))) (λx8=>(some (.next (x8,(A3 (i2+1))))))) else(some (.done i1)))
def Jp(aL:Ad)(aA:Ad):Option Int:=
 ((Af (Ek aL aA) ((-2:Int),(0:Int))).bind (λx10=>(some x10)))
theorem Y5(h:Jp v2 v17=some v1):sP 178 [(Lo v2),(Lo v17)] [] (.int .i64 v1) []:=
 sG Tryz.func178 λΓ q=>tW q Cy [] V9 [] (Ag q IY [] (tL q h IY [] (λu (i1,i2)=>(Dv u [(5,(Aq i1)),(Db 10 i2)] [])) (λu i3=>aG Γ (.exit 0) (⟨[(5,(Aq i3))],[],[]⟩:St)) (λ⟨i1,i2⟩ y h=>Ag q [0,5,8,9,10,11] [] (gC h (λh=>tB h λx8 y8 h=>gJ y8 (λi4=>aG Γ .normal (⟨[(0,(Lo v2)),(5,(Aq i4)),(8,(Lo v17)),(9,(Od v17.length)),(Db 10 i2)],[],[]⟩:St)) (λy h=>tV q [0,5,7,8,9,10] [] h λh=>tV q [0,5,7,8,9,10,18] [] h λh=>gC h (λh=>tS h (gK (B0 (Bs IY [] q)))) λh=>Ag q [0,5,7,8,9,10,24] [] (gC h (λh=>Ag q IY [] (tS h (gK (B0 Kb)))) λh=>tB h λx7 y7 h=>tT q IY [] [(MJ x7)] (c1 (KC y7)) (tS h (gK (B0 Kb))))) (gA (Ag q IY [] (tN h)))) λh=>tS h (gO (B0 (Bs [5] [] q))))) λx10 h=>gA (Ag q [4] [] (tS h (Bj [])))))
abbrev rK:=(Bool×Int×Ad)
abbrev wZ:=(LR (Bool×Int×Ad) (Bool×Ad))
abbrev nS:=(Bool×Ad)
def D8(aM:C5)(x3:Ad):rK->Option wZ:=
 λ((b7,i8,l9):rK)=>(bif (decide (i8<((x3.drop (1:Int).toNat).length:Int))) then(Option.bind (α:=nS) (Az (Ay i8 (x3.drop (1:Int).toNat).length) (Az (Ay ((x3.drop (1:Int).toNat).getD i8.toNat 0) aM.Pred.length) ((Jp l9 (aM.Pred.getD ((x3.drop (1:Int).toNat).getD i8.toNat 0).toNat [])).bind λx16=>(Az (Ay ((x3.drop (1:Int).toNat).getD i8.toNat 0) l9.length) (bif (x16 !=(l9.getD ((x3.drop (1:Int).toNat).getD i8.toNat 0).toNat (0:Int))) then(Az (Ay ((x3.drop (1:Int).toNat).getD i8.toNat 0) l9.length) (some (true,(l9.set ((x3.drop (1:Int).toNat).getD i8.toNat 0).toNat x16)))) else(some (b7,l9))))))) (λ(b12,l13)=>(some (.next (b12,(A3 (i8+1)),l13))))) else(some (.done (b7,l9))))
def Tg(aM:C5)(l1:Ad):rK->Option wZ:=
 λ((b24,i25,l26):rK)=>(bif (decide (i25<((l1.drop (1:Int).toNat).length:Int))) then(Option.bind (α:=nS) (Az (Ay i25 (l1.drop (1:Int).toNat).length) (Az (Ay ((l1.drop (1:Int).toNat).getD i25.toNat 0) aM.Pred.length) ((Jp l26 (aM.Pred.getD ((l1.drop (1:Int).toNat).getD i25.toNat 0).toNat [])).bind λx33=>(Az (Ay ((l1.drop (1:Int).toNat).getD i25.toNat 0) l26.length) (bif (x33 !=(l26.getD ((l1.drop (1:Int).toNat).getD i25.toNat 0).toNat (0:Int))) then(Az (Ay ((l1.drop (1:Int).toNat).getD i25.toNat 0) l26.length) (some (true,(l26.set ((l1.drop (1:Int).toNat).getD i25.toNat 0).toNat x33)))) else(some (b24,l26))))))) (λ(b29,l30)=>(some (.next (b29,(A3 (i25+1)),l30))))) else(some (.done (b24,l26))))
abbrev jt:=(Ad×Ad)
def Fq(aM:C5):jt->Option (LR (Ad×Ad) Ad):=
 λ(s_:jt)=>match s_ with|(l1,l2)=>(Az (0<=(1:Int)/\(1:Int)<=(l1.length:Int)) ((Af (Tg aM l1) (false,(0:Int),l2)).bind (λx38=>(match x38 with|(b27,l28)=>(bif b27 then(some (.next (l1,l28))) else(some (.done l28)))))))
def dD(Γ:G8)(aM:C5)(aaD:Int)(r:Ad):Exit->St->Prop:=fK Tryz.prog Γ Tryz.f142.results.toList [] (WO r 20000) [(20000,.tok 1 3 r.length)]
def ub:=(λn_=>Bp n_ [2,13,21])
def w6:List ju:=[(4,ks)]
def w5(x3:Ad)(i8:Int):=((x3.drop (1:Int).toNat).getD i8.toNat 0)
def w4(l1:Ad)(i25:Int):=((l1.drop (1:Int).toNat).getD i25.toNat 0)
def xY(aM:C5):List AV:=[(JK aM.Succ),(JK aM.Pred)]
def yP:=(Z138:St)
def Rh(aM:C5)(aaD:Int):Option Ad:=
 ((Ms (S:=jt) (X:=Ad) ((H3 aM aaD).bind λx3=>(bif ((x3.length:Int)==0) then(some (.done ([]:Ad))) else((Gb ([(-2:Int)]:Ad) (aM.Succ.length:Int)).bind λx4=>(Az (Ay aaD x4.length) (Az (0<=(1:Int)/\(1:Int)<=(x3.length:Int)) ((Af (D8 aM x3) (false,(0:Int),(x4.set aaD.toNat (-1:Int)))).bind (λ(b10,l11)=>(bif b10 then(some (.next (x3,l11))) else(some (.done l11)))))))))) (Fq aM)).bind (λx40=>(some x40)))
theorem bv(h:Rh v18 v1=some v2):sP 142 [(.agg (Sn v18)),(Aq v1)] [] (WO v2 20000) [(20000,.tok 1 3 v2.length)]:=
 sG Tryz.func142 λΓ q=>have hΓ:=q.own;gR q R9 [2] w6 [] (c1 (Be 1 Ao (0:Int))) (tB h λx40 y40 h=>gS y40 (λ(s_:jt)=>match s_ with|(l1,l2)=>0) (λ(s_:jt)=>match s_ with|(l1,l2)=>(⟨[AG,(5,(WO l1 13)),(6,(.vsl 21 l2.length))],[(2,.row 97 (xY v18)),(13,.tok 1 3 l1.length),(Tb 21 l2)],[]⟩:St)) (λr_=>aR (dD Γ v18 v1 r_)) (λy h=>tB h λx3 y3 h=>tT q JE [2,13] [(xF 13 x3 x3.length)] (c1 (Y7 y3)) (Ag q [1,2,5,16] [2,13] (gC h (λh=>gR q [4] [] w6 [] (c1 (Be 1 Ao (0:Int))) (O8 (⟨w6,[],[]⟩:St) (tS h (JT (Oa (Hd fQ (show Le Γ _ yP from Le.trans (Bs (st':=⟨w6,[],[]⟩) [4] [] q) (Le.trans (Oq (t:=4) (nm:=6004) (sz':=1) (λi=>Ao (([]:Ad).getD i 0)) 3 rfl rfl (.inl ⟨rfl,rfl⟩) (λh_=>absurd h_ (by decide))) (Bs (st':=yP) [4] [6004] q))))))))) λh=>tB h λx4 y4 h=>gR q [1,2,5,6] Hg [(17,(AV.list 1 Ao 0 ([(-2:Int)]:Ad) .exact))] [⟨[],[(20000,21)],(.vsl 20000 x4.length),[(Tb 20000 x4)],[],[]⟩] (c2 (A0 1 Ao (0:Int) ([(-2:Int)]:Ad)) (Tw y4)) (tC h λc5_ h=>tU q T0 Hg (c2 c5_ (Eq.refl x4.length)) (Ka (Le.trans (Pa 21 (show ∀ k_,k_<x4.length->AVleL ((λi_=>AV.eraseAll ub ((Il (λi=>Ao (x4.getD i 0)) v1.toNat 0 [(.int .i64 (-1:Int))]) i_)) k_) ((λi=>Ao ((x4.set v1.toNat (-1:Int)).getD i 0)) k_) from(A8 (Cp ..).symm (λk_ hk_=>(Bn (AV.eraseAll ub) ((E1 (λ_ _=>rfl) (Fn c5_) rfl) k_ hk_)).trans rfl)))) (Pb (λ(k_:Nat) u=>(Dv u [(6,(.vsl 21 k_))] [(21,.arr 1 3 k_ (λi=>Ao ((x4.set v1.toNat (-1:Int)).getD i 0)))])) (show x4.length=(x4.set v1.toNat (-1:Int)).length from(Cp ..).symm))) (Ag q JB Hg (tC h λc6_ h=>gR q CO Hg [(26,(AV.list 1 Ao 0 (x3.drop (1:Int).toNat) .none))] [] (c2 c6_ (show(AVle (ue x3) (AV.list 1 Ao 0 (x3.drop (1:Int).toNat) .none)) from AL)) (tL q h CO Hg (λu (b7,i8,l9)=>(Dv u [(6,(.vsl 21 l9.length)),(7,(.bool b7)),(Db 28 i8)] [(Tb 21 l9)])) (λu (b10,l11)=>aG Γ (.exit 0) (V4 JB Hg u [(6,(.vsl 21 l11.length)),(7,(.bool b10))] [(Tb 21 l11)])) (λ⟨b7,i8,l9⟩ y h=>Ag q nk Hg (gC h (λh=>tB h λx19 y19 h=>gJ y19 (λ(b12,l13)=>aG Γ .normal (⟨[AG,(5,(WO x3 13)),(6,(.vsl 21 l13.length)),(7,(.bool b12)),(26,(AV.list 1 Ao 0 (x3.drop (1:Int).toNat) .none)),(27,(.int .i64 ((x3.drop (1:Int).toNat).length:Int))),(Db 28 i8)],[(2,.row 97 (xY v18)),(13,.tok 1 3 x3.length),(Tb 21 l13)],[]⟩:St)) (λy h=>tV q nr Hg h λh=>tC h λc15_ h=>tB h λx16 y16 h=>tT q nd Hg [⟨[],[],(Aq x16),[],[21],[]⟩] (c4 c15_ (Y5 y16) (show(JR []) from trivial) (Eq.refl l9.length)) (tC h λc17_ h=>tU q na Hg (c2 c17_ (Eq.refl l9.length)) (gC h (λh=>tC h λc18_ h=>tU q CO Hg (c2 c18_ (Eq.refl l9.length)) (tS h (gK (B0 (Le.trans (Le.trans (Pa 21 (show ∀ k_,k_<l9.length->AVleL ((λi_=>AV.eraseAll ub ((Il (λi=>Ao (l9.getD i 0)) (w5 x3 i8).toNat 0 [(Aq x16)]) i_)) k_) ((λi=>Ao ((l9.set (w5 x3 i8).toNat x16).getD i 0)) k_) from(A8 (Cp ..).symm (λk_ hk_=>(Bn (AV.eraseAll ub) ((E1 (λ_ _=>rfl) (Fn c18_) rfl) k_ hk_)).trans rfl)))) (Pb (λ(k_:Nat) u=>(Dv u [(6,(.vsl 21 k_))] [(21,.arr 1 3 k_ (λi=>Ao ((l9.set (w5 x3 i8).toNat x16).getD i 0)))])) (show l9.length=(l9.set (w5 x3 i8).toNat x16).length from(Cp ..).symm))) Kb))))) λh=>tS h (gK (B0 (Bs CO Hg q)))))) (match x19,h with|⟨b12,l13⟩,h=>gA (Ag q CO Hg (tN h)))) λh=>tS h (gO (B0 (Bs JB Hg q))))) λx21 h=>(match x21,h with|⟨b10,l11⟩,h=>gA (Ag q [2,5,6,50] Hg (gC h (λh=>tS h (dk (Bs T0 Hg q))) λh=>Ag q [4] [21] (O8 ((kq 21 l11.length l11):St) (tS h (JT (Oa (Hd [(21,20000)] (Le.trans (Fg (nm:=21) (sz:=1) (n:=l11.length) (e:=3) (f:=(λi=>Ao (l11.getD i 0))) (g:=(λi=>Ao (l11.getD i 0))) rfl ⟨rfl,trivial⟩ (λ_ _=>rfl) (by rw[hΓ];rfl)) (Kc (st':=(kp l11 21 l11.length)) (by kernel_rfl))))))))))))))))))) (λ⟨l1,l2⟩ y h=>Ag q JB Hg (tC h λc23_ h=>gR q CO Hg [(26,(AV.list 1 Ao 0 (l1.drop (1:Int).toNat) .none))] [] (c2 c23_ (show(AVle (ue l1) (AV.list 1 Ao 0 (l1.drop (1:Int).toNat) .none)) from AL)) (tL q h CO Hg (λu (b24,i25,l26)=>(Dv u [(6,(.vsl 21 l26.length)),(7,(.bool b24)),(Db 28 i25)] [(Tb 21 l26)])) (λu (b27,l28)=>aG Γ (.exit 0) (V4 JB Hg u [(6,(.vsl 21 l28.length)),(7,(.bool b27))] [(Tb 21 l28)])) (λ⟨b24,i25,l26⟩ y h=>Ag q nk Hg (gC h (λh=>tB h λx36 y36 h=>gJ y36 (λ(b29,l30)=>aG Γ .normal (⟨[AG,(5,(WO l1 13)),(6,(.vsl 21 l30.length)),(7,(.bool b29)),(26,(AV.list 1 Ao 0 (l1.drop (1:Int).toNat) .none)),(27,(.int .i64 ((l1.drop (1:Int).toNat).length:Int))),(Db 28 i25)],[(2,.row 97 (xY v18)),(13,.tok 1 3 l1.length),(Tb 21 l30)],[]⟩:St)) (λy h=>tV q nr Hg h λh=>tC h λc32_ h=>tB h λx33 y33 h=>tT q nd Hg [⟨[],[],(Aq x33),[],[21],[]⟩] (c4 c32_ (Y5 y33) (show(JR []) from trivial) (Eq.refl l26.length)) (tC h λc34_ h=>tU q na Hg (c2 c34_ (Eq.refl l26.length)) (gC h (λh=>tC h λc35_ h=>tU q CO Hg (c2 c35_ (Eq.refl l26.length)) (tS h (gK (B0 (Le.trans (Le.trans (Pa 21 (show ∀ k_,k_<l26.length->AVleL ((λi_=>AV.eraseAll ub ((Il (λi=>Ao (l26.getD i 0)) (w4 l1 i25).toNat 0 [(Aq x33)]) i_)) k_) ((λi=>Ao ((l26.set (w4 l1 i25).toNat x33).getD i 0)) k_) from(A8 (Cp ..).symm (λk_ hk_=>(Bn (AV.eraseAll ub) ((E1 (λ_ _=>rfl) (Fn c35_) rfl) k_ hk_)).trans rfl)))) (Pb (λ(k_:Nat) u=>(Dv u [(6,(.vsl 21 k_))] [(21,.arr 1 3 k_ (λi=>Ao ((l26.set (w4 l1 i25).toNat x33).getD i 0)))])) (show l26.length=(l26.set (w4 l1 i25).toNat x33).length from(Cp ..).symm))) Kb))))) λh=>tS h (gK (B0 (Bs CO Hg q)))))) (match x36,h with|⟨b29,l30⟩,h=>gA (Ag q CO Hg (tN h)))) λh=>tS h (gO (B0 (Bs JB Hg q))))) λx38 h=>(match x38,h with|⟨b27,l28⟩,h=>gA (Ag q [2,5,6,50] Hg (gC h (λh=>tS h (dk (Bs T0 Hg q))) λh=>Ag q [4] [21] (O8 ((kq 21 l28.length l28):St) (tS h (JT (Oa (Hd [(21,20000)] (Le.trans (Fg (nm:=21) (sz:=1) (n:=l28.length) (e:=3) (f:=(λi=>Ao (l28.getD i 0))) (g:=(λi=>Ao (l28.getD i 0))) rfl ⟨rfl,trivial⟩ (λ_ _=>rfl) (by rw[hΓ];rfl)) (Kc (st':=(kp l28 21 l28.length)) (by kernel_rfl)))))))))))))) (gAr (λst' hk=>tS h (gK hk))))
def Mn(aY:List Bb)(aaU:Ad):Int->Option (LR Int (Unit ⊕ Bool)):=
 λ(i1:Int)=>(bif (decide (i1<(aY.length:Int))) then(Az (Ay i1 aY.length) ((Dr ((aY.getD i1.toNat default).From) aaU).bind λx3=>(bif (bif (!x3) then true else((((aY.getD i1.toNat default).Args).length:Int)!=(aaU.length:Int))) then(some (.done (.inr false))) else(some (.next (A3 (i1+1))))))) else(some (.done (.inl ()))))
def LC(Γ:G8)(aY:List Bb)(aaU:Ad)(r:Bool):Exit->St->Prop:=fK Tryz.prog Γ Tryz.f143.results.toList [] (.bool r) []
def Mc(aY:List Bb)(aaU:Ad):Option Bool:=
 ((Af (Mn aY aaU) (0:Int)).bind (λx4=>(match x4 with|(.inl _)=>(some true)|(.inr r6)=>(some r6))))
theorem HW(h:Mc v5 v2=some v3):sP 143 [(rl v5),(Lo v2)] [] (.bool v3) []:=
 sG Tryz.func143 λΓ q=>tW q Cy [] J2 [] (tL q h J2 [] (λu i1=>(Dv u [(9,(Aq i1))] [])) (λu x_=>match x_ with|(.inl _)=>aG Γ (.exit 0) (⟨[],[],[]⟩:St)|(.inr r_)=>aR (LC Γ v5 v2 r_)) (λi1 y h=>Ag q KZ [] (gC h (λh=>tV q LA [6] h λh=>tB h λx3 y3 h=>tT q [1,7,8,9,25] [] [(Z9 x3)] (ci (Ii y3) (uh ((!x3)==false) (c1 (Pv (!x3))))) (gC h (λh=>Ag q [4] [] (tS h (gO (Oa (Hd [] (Le.refl _ _)))))) λh=>Ag q J2 [] (tN h))) λh=>tS h (gO (B0 (Bs [] [] q))))) λx4 h=>(match x4,h with | .inl _,h=>gA (Ag q [4] [] (tS h (Bj []))) | .inr r6,h=>gAr (λst' hk=>tS h (gK hk))))
def yQ(aS:Eo):=(bif (aS.Kind==0) then true else(aS.Kind==2))
def Mb(aS:Eo):Option Bool:=
 (some (bif (bif (aS.Kind==0) then true else(aS.Kind==2)) then true else(aS.Arg==0)))
theorem HV(h:Mb v8=some v3):sP 144 [(.agg (f8 v8))] [] (.bool v3) []:=
 sG Tryz.func144 λΓ q=>Ag q [1] [1] (tU q [2] [] (Qy ((v8.Kind==0)==false) (ci (Pv (v8.Kind==0)) (Qy ((yQ v8)==false) (c1 (Pv (yQ v8)))))) (tS h (Bj [])))
def Cs(a3:Aa)(a7:Int)(a4:List Bd)(x1:sK)(x3:Ad):Int->Option (LR Int (Unit ⊕ (Int×Aa×Int×Ad×List Bd))):=
 λ(i4:Int)=>(bif (decide (i4<(a3.Blocks.length:Int))) then(Az (Ay i4 a3.Blocks.length) (Az (Ay i4 x1.1.Pred.length) ((Mc ((a3.Blocks.getD i4.toNat default).Phis) (x1.1.Pred.getD i4.toNat [])).bind λx7=>((bif ((!x7)==false) then Mb (⟨(a3.Blocks.getD i4.toNat default).End.Kind,(a3.Blocks.getD i4.toNat default).End.Arg,(a3.Blocks.getD i4.toNat default).End.To⟩:Eo) else some false).bind λx8=>(bif (bif (!x7) then true else(!x8)) then(some (.done (.inr ((5:Int),a3,a7,x3,a4)))) else(some (.next (A3 (i4+1))))))))) else(some (.done (.inl ()))))
def U9(Γ:G8)(a3:Aa)(a7:Int)(a0:Ad)(a4:List Bd)(r:jx):Exit->St->Prop:=fK Tryz.prog Γ Tryz.f88.results.toList (Z4 a3.Params a3.Ret a3.Blocks a7 a0 a4 a4.length) (Aq r.1) (Z4 r.2.1.Params r.2.1.Ret r.2.1.Blocks r.2.2.1 r.2.2.2.1 r.2.2.2.2 r.2.2.2.2.length)
def xZ(x1:sK):=((x1.2 !=0)==false)
def yR(x3:Ad)(a3:Aa)(a7:Int)(a4:List Bd):List U8:=[(31,.tok 1 3 x3.length),(30000,.row 105 [(Lo a3.Params),(Aq a3.Ret),(GW a3.Blocks),(Aq a7),(Lo x3),.nilm,(AV.list 5 Lg default a4 (.own 37006))]),(Gy 37006 198 a4.length)]
def w7(x3:Ad)(a3:Aa)(a7:Int)(a4:List Bd):List U8:=[(31,.tok 1 3 x3.length),(30000,.row 105 [(Lo a3.Params),(Aq a3.Ret),(GW a3.Blocks),(Aq a7),(WO x3 31),.nilm,(AV.list 5 Lg default a4 (.own 37006))]),(Gy 37006 198 a4.length)]
def Gm(a3:Aa)(a7:Int)(a0:Ad)(a4:List Bd):Option jx:=
 ((Rk a3).bind λx1=>((bif ((x1.2 !=0)==false) then H3 x1.1 (0:Int) else some []).bind λx2=>(bif (bif (x1.2 !=0) then true else(decide ((x2.length:Int)<(a3.Blocks.length:Int)))) then(some ((5:Int),a3,a7,a0,a4)) else((Rh x1.1 (0:Int)).bind λx3=>((Af (Cs a3 a7 a4 x1 x3) (0:Int)).bind (λx9=>(match x9 with|(.inl _)=>(some ((0:Int),a3,a7,x3,a4))|(.inr r11)=>(some r11))))))))
theorem Um(h:Gm v0 v1 v2 v12=some v13):sP 88 CZ (Z4 v0.Params v0.Ret v0.Blocks v1 v2 v12 v12.length) (Aq v13.1) (Z4 v13.2.1.Params v13.2.1.Ret v13.2.1.Blocks v13.2.2.1 v13.2.2.2.1 v13.2.2.2.2 v13.2.2.2.2.length):=
 sG Tryz.func88 λΓ q=>Ag q [0] C3 (tB h λx1 y1 h=>tT q F1 RD [⟨[],[],(.tuple [(.agg (Sn x1.1)),(Aq x1.2)]),[],[],[]⟩] (c1 (KE y1)) (tB h λx2 y2 h=>tT q [0,3,28] RD [⟨[],[],(Lo x2),[],[],[]⟩] (NT (gI (xZ x1)) (show((xZ x1)=true->(sP 141 [(.agg (Sn x1.1)),In] [] (Lo x2) [])) from(λhg=>(Spec.drop (Y7 (B4 hg y2))))) (yr (xZ x1) (c1 (Pv (x1.2 !=0))))) (gC h (λh=>Ag q [2] C3 (tS h (Bj Wy))) λh=>tB h λx3 y3 h=>tT q Ln VX [(xF 31 x3 x3.length)] (c1 (bv y3)) (Ag q fR VX (tL q h fR VX (λu i4=>(Dv u [(Db 40 i4)] [])) (λu x_=>match x_ with|(.inl _)=>aG Γ (.exit 0) (V4 [] VZ u [] [])|(.inr r_)=>aR (U9 Γ v0 v1 v2 v12 r_)) (λi4 y h=>Ag q [3,38,39,40,41] VX (gC h (λh=>tV q [3,5,6,38,39,40] [3,6,31,30000,37006] h λh=>tC h λc6_ h=>tB h λx7 y7 h=>tB h λx8 y8 h=>tT q [3,38,39,40,59] VX [(Z9 x7),(Z9 x8)] (NT c6_ (HW y7) (Qy ((!x7)==false) (c3 (λ(hg:((!x7)==false)=true)=>(HV (B4 hg y8))) (gI ((!x7)==false)) (Pv (!x7))))) (gC h (λh=>Ag q [2] VZ (O8 (⟨[(2,WK)],(w7 x3 v0 v1 v12),[]⟩:St) (tS h (gO (Oa (Hd Wy (show Le Γ _ (⟨[(2,WK)],(yR x3 v0 v1 v12),[]⟩:St) from Le.trans (Bs (st':=⟨[(2,WK)],(w7 x3 v0 v1 v12),[]⟩) [2] VZ q) (Ng (.cons (AVle.refl _) .nil) (.same (.row (.cons (AVle.refl _) (.cons (AVle.refl _) (.cons (AVle.refl _) (.cons (AVle.refl _) (.cons AVle.untag (.cons (AVle.refl _) (.cons (AVle.refl _) .nil))))))) (.same .nil))))))))))) λh=>Ag q fR VX (tN h))) λh=>tS h (gO (B0 (Bs [] VZ q))))) λx9 h=>(match x9,h with | .inl _,h=>gA (Ag q [2] VZ (O8 (⟨[(2,In)],(w7 x3 v0 v1 v12),[]⟩:St) (tS h (gK (e:=.ret) (Hd Wy (show Le Γ _ (⟨[(2,In)],(yR x3 v0 v1 v12),[]⟩:St) from Le.trans (Bs (st':=⟨[(2,In)],(w7 x3 v0 v1 v12),[]⟩) [2] VZ q) (Ng (.cons (AVle.refl _) .nil) (.same (.row (.cons (AVle.refl _) (.cons (AVle.refl _) (.cons (AVle.refl _) (.cons (AVle.refl _) (.cons AVle.untag (.cons (AVle.refl _) (.cons (AVle.refl _) .nil))))))) (.same .nil)))))))))) | .inr r11,h=>gAr (λst' hk=>tS h (gK hk))))))))
def D1(aE:Int):Option Bool:=
 (Option.bind (α:=Bool) (bif (aE==1) then(some (aE==1)) else(bif (aE==8) then(some (aE==8)) else(bif (aE==16) then(some (aE==16)) else(bif (aE==32) then(some (aE==32)) else(some (aE==64)))))) (λx2=>(bif x2 then(some true) else(some false))))
theorem En(h:D1 v1=some v3):sP 146 [(Aq v1)] [] (.bool v3) []:=
 sG Tryz.func146 λΓ q=>tW q [0] [] [3] [] (tB h λx2 y2 h=>gJ y2 (λb1=>aG Γ .normal (⟨[(4,(.bool b1))],[],[]⟩:St)) (λy h=>Ag q [3,4] [] (gC h (λh=>tS h (gK (B0 (Bs [4] [] q)))) λh=>Ag q [3,4] [] (gC h (λh=>tS h (gK (B0 (Bs [4] [] q)))) λh=>Ag q [3,4] [] (gC h (λh=>tS h (gK (B0 (Bs [4] [] q)))) λh=>Ag q [3,4] [] (gC h (λh=>tS h (gK (B0 (Bs [4] [] q)))) λh=>Ag q [4] [] (tS h (gK (B0 Kb)))))))) (gA (gC h (λh=>Ag q [2] [] (tS h (Bj []))) λh=>Ag q [2] [] (tS h (Bj [])))))
def Mm(aA:Ad):Int->Option (LR Int (Unit ⊕ Bool)):=
 λ(i1:Int)=>(bif (decide (i1<(aA.length:Int))) then(Az (Ay i1 aA.length) ((D1 (aA.getD i1.toNat 0)).bind λx3=>(bif (!x3) then(some (.done (.inr false))) else(some (.next (A3 (i1+1))))))) else(some (.done (.inl ()))))
def LB(Γ:G8)(aA:Ad)(r:Bool):Exit->St->Prop:=fK Tryz.prog Γ Tryz.f145.results.toList [] (.bool r) []
def Ma(aA:Ad):Option Bool:=
 ((Af (Mm aA) (0:Int)).bind (λx4=>(match x4 with|(.inl _)=>(some true)|(.inr r6)=>(some r6))))
theorem HU(h:Ma v2=some v3):sP 145 [(Lo v2),(Sb 146)] [] (.bool v3) []:=
 sG Tryz.func145 λΓ q=>tW q Cy [] J2 [] (tL q h J2 [] (λu i1=>(Dv u [(9,(Aq i1))] [])) (λu x_=>match x_ with|(.inl _)=>aG Γ (.exit 0) (⟨[],[],[]⟩:St)|(.inr r_)=>aR (LB Γ v2 r_)) (λi1 y h=>Ag q KZ [] (gC h (λh=>tV q LA [] h λh=>tB h λx3 y3 h=>tT q RS [] [(Z9 x3)] (c1 (En y3)) (gC h (λh=>Ag q [4] [] (tS h (gO (Oa (Hd [] (Le.refl _ _)))))) λh=>Ag q J2 [] (tN h))) λh=>tS h (gO (B0 (Bs [] [] q))))) λx4 h=>(match x4,h with | .inl _,h=>gA (Ag q [4] [] (tS h (Bj []))) | .inr r6,h=>gAr (λst' hk=>tS h (gK hk))))
def Ou(aQ:Bb):Option Bool:=
 ((D1 aQ.Bits).bind λx1=>(some x1))
theorem FS(h:Ou v4=some v3):sP 180 [(.agg (Fz v4))] [] (.bool v3) []:=
 sG Tryz.func180 λΓ q=>Ag q [1] [1] (tB h λx1 y1 h=>tT q [2] [] [(Z9 x1)] (c1 (En y1)) (tS h (Bj [])))
def I8(aA:List Bb):Int->Option (LR Int (Unit ⊕ Bool)):=
 λ(i1:Int)=>(bif (decide (i1<(aA.length:Int))) then(Az (Ay i1 aA.length) ((Ou (aA.getD i1.toNat default)).bind λx3=>(bif (!x3) then(some (.done (.inr false))) else(some (.next (A3 (i1+1))))))) else(some (.done (.inl ()))))
def BH(Γ:G8)(aA:List Bb)(r:Bool):Exit->St->Prop:=fK Tryz.prog Γ Tryz.f179.results.toList [] (.bool r) []
def Ib(aA:List Bb):Option Bool:=
 ((Af (I8 aA) (0:Int)).bind (λx4=>(match x4 with|(.inl _)=>(some true)|(.inr r6)=>(some r6))))
theorem Y3(h:Ib v5=some v3):sP 179 [(rl v5),(Sb 180)] [] (.bool v3) []:=
 sG Tryz.func179 λΓ q=>tW q Cy [] J2 [] (tL q h J2 [] (λu i1=>(Dv u [(9,(Aq i1))] [])) (λu x_=>match x_ with|(.inl _)=>aG Γ (.exit 0) (⟨[],[],[]⟩:St)|(.inr r_)=>aR (BH Γ v5 r_)) (λi1 y h=>Ag q KZ [] (gC h (λh=>tV q LA [6] h λh=>tB h λx3 y3 h=>tT q RS [] [(Z9 x3)] (c1 (FS y3)) (gC h (λh=>Ag q [4] [] (tS h (gO (Oa (Hd [] (Le.refl _ _)))))) λh=>Ag q J2 [] (tN h))) λh=>tS h (gO (B0 (Bs [] [] q))))) λx4 h=>(match x4,h with | .inl _,h=>gA (Ag q [4] [] (tS h (Bj []))) | .inr r6,h=>gAr (λst' hk=>tS h (gK hk))))
def L1(aV:Int):Option Bool:=
 (some (bif (decide ((0:Int)<=aV)) then(decide (aV<=22)) else false))
theorem Zc(h:L1 v1=some v3):sP 197 [(Aq v1)] [] (.bool v3) []:=
 sG Tryz.func197 λΓ q=>Ag q [0] [] (tU q [2] [] (c2 (gI ((decide ((0:Int)<=v1))==true)) (O9 (decide ((0:Int)<=v1)))) (tS h (Bj [])))
def yS(x5:Bool)(aE:Int):=(bif x5 then(decide ((8:Int)<=aE)) else false)
def Qp(aE:Int)(aaK:Int):Option Bool:=
 (bif (aaK==1) then((D1 aE).bind λx1=>(some x1)) else(Option.bind (α:=Bool) (bif (aaK==2) then(some (aaK==2)) else(bif (aaK==4) then(some (aaK==4)) else(bif (aaK==8) then(some (aaK==8)) else(some (aaK==16))))) (λx3=>(bif x3 then((D1 aE).bind λx5=>(some (bif (bif x5 then(decide ((8:Int)<=aE)) else false) then(decide (((A3 (aE*aaK)):Int)<=128)) else false))) else(some false)))))
theorem SX(h:Qp v1 v11=some v3):sP 240 [(Aq v1),(Aq v11)] [] (.bool v3) []:=
 sG Tryz.func240 λΓ q=>tW q Cy [] V9 [] (Ag q RL [] (gC h (λh=>tB h λx1 y1 h=>tT q [4] [] [(Z9 x1)] (c1 (En y1)) (tS h (Bj []))) λh=>tB h λx3 y3 h=>gJ y3 (λb2=>aG Γ .normal (⟨[(0,(Aq v1)),(1,(Aq v11)),(10,(.bool b2))],[],[]⟩:St)) (λy h=>Ag q [0,1,5,10] [] (gC h (λh=>tS h (gK (B0 (Bs V7 [] q)))) λh=>Ag q [0,1,5,10] [] (gC h (λh=>tS h (gK (B0 (Bs V7 [] q)))) λh=>Ag q [0,1,5,10] [] (gC h (λh=>tS h (gK (B0 (Bs V7 [] q)))) λh=>Ag q V7 [] (tS h (gK (B0 Kb))))))) (gA (gC h (λh=>tB h λx5 y5 h=>tT q [4] [] [(Z9 x5)] (yh (En y5) (gI (x5==true)) (O9 x5) (dj ((yS x5 v1)==true) (c1 (O9 (yS x5 v1))))) (tS h (Bj []))) λh=>Ag q [4] [] (tS h (Bj []))))))
def w8(a2:A6):List U8:=[(1,.row 51 (kh a2.Kind a2.Bits a2.Lanes a2.Dst a2.Args a2.Imm))]
def K7(a2:A6):Option Bool:=
 (Option.bind (α:=Bool) (bif (a2.Kind==16) then(some (a2.Kind==16)) else(some (a2.Kind==17))) (λx2=>(bif x2 then(some (decide ((8:Int)<=a2.Bits))) else(Option.bind (α:=Bool) (bif (a2.Kind==18) then(some (a2.Kind==18)) else(some (a2.Kind==19))) (λx5=>(bif x5 then(some (bif (decide ((8:Int)<=a2.Bits)) then(a2.Lanes==1) else false)) else(Option.bind (α:=Bool) (bif (a2.Kind==4) then(some (a2.Kind==4)) else(bif (a2.Kind==10) then(some (a2.Kind==10)) else(bif (a2.Kind==11) then(some (a2.Kind==11)) else(bif (a2.Kind==12) then(some (a2.Kind==12)) else(bif (a2.Kind==14) then(some (a2.Kind==14)) else(bif (a2.Kind==15) then(some (a2.Kind==15)) else(some (a2.Kind==20)))))))) (λx8=>(bif x8 then(some (a2.Lanes==1)) else(Option.bind (α:=Bool) (bif (a2.Kind==21) then(some (a2.Kind==21)) else(some (a2.Kind==22))) (λx11=>(bif x11 then(some (decide ((1:Int)<a2.Lanes))) else(some true)))))))))))))
theorem FX(h:K7 v6=some v3):sP 241 [(EM v6)] [] (.bool v3) []:=
 sG Tryz.func241 λΓ q=>tW q [1] [1] [1,4] [1] (tB h λx2 y2 h=>gJ y2 (λb1=>aG Γ .normal (⟨[(1,(.ptr 1 0)),(4,(Aq v6.Kind)),(5,(.bool b1))],(w8 v6),[]⟩:St)) (λy h=>Ag q [1,4,5] [1] (gC h (λh=>tS h (gK (B0 Kb))) λh=>Ag q [1,4,5] [1] (tS h (gK (B0 Kb))))) (gA (gC h (λh=>Ag q [2] [] (tS h (Bj []))) λh=>tB h λx5 y5 h=>gJ y5 (λb4=>aG Γ .normal (⟨[(1,(.ptr 1 0)),(4,(Aq v6.Kind)),(11,(.bool b4))],(w8 v6),[]⟩:St)) (λy h=>Ag q [1,4,11] [1] (gC h (λh=>tS h (gK (B0 Kb))) λh=>Ag q [1,4,11] [1] (tS h (gK (B0 Kb))))) (gA (gC h (λh=>tU q [2] [] (Qy ((decide ((8:Int)<=v6.Bits))==true) (c1 (O9 (decide ((8:Int)<=v6.Bits))))) (tS h (Bj []))) λh=>tB h λx8 y8 h=>gJ y8 (λb7=>aG Γ .normal (⟨[(1,(.ptr 1 0)),(4,(Aq v6.Kind)),(22,(.bool b7))],(w8 v6),[]⟩:St)) (λy h=>Ag q EC [1] (gC h (λh=>tS h (gK (B0 Kb))) λh=>Ag q EC [1] (gC h (λh=>tS h (gK (B0 Kb))) λh=>Ag q EC [1] (gC h (λh=>tS h (gK (B0 Kb))) λh=>Ag q EC [1] (gC h (λh=>tS h (gK (B0 Kb))) λh=>Ag q EC [1] (gC h (λh=>tS h (gK (B0 Kb))) λh=>Ag q EC [1] (gC h (λh=>tS h (gK (B0 Kb))) λh=>Ag q EC [1] (tS h (gK (B0 Kb)))))))))) (gA (gC h (λh=>Ag q [2] [] (tS h (Bj []))) λh=>tB h λx11 y11 h=>gJ y11 (λb10=>aG Γ .normal (⟨[(1,(.ptr 1 0)),(33,(.bool b10))],(w8 v6),[]⟩:St)) (λy h=>Ag q [1,4,33] [1] (gC h (λh=>tS h (gK (B0 (Bs [1,33] [1] q)))) λh=>Ag q [1,33] [1] (tS h (gK (B0 Kb))))) (gA (gC h (λh=>Ag q [2] [] (tS h (Bj []))) λh=>Ag q [2] [] (tS h (Bj [])))))))))))
def H5(aJ:Int)(aE:Int):Option Int:=
 ((D1 aE).bind λx1=>(bif (!x1) then(some (0:Int)) else(Az (0<=(A3 ((64:Int)-aE))) (Az (0<=(A3 ((64:Int)-aE))) (some (R3 .u64 (cR .u64 aJ (A3 ((64:Int)-aE))) (A3 ((64:Int)-aE))))))))
theorem Kt(h:H5 v1 v11=some v20):sP 105 [(M4 v1),(Aq v11)] [] (.int .u64 v20) []:=
 sG Tryz.func105 λΓ q=>Ag q Cy [] (tB h λx1 y1 h=>tT q [0,1,7] [] [(Z9 x1)] (c1 (En y1)) (gC h (λh=>Ag q [4] [] (tS h (Bj []))) λh=>tC h λc2_ h=>tC h λc3_ h=>tU q [4] [] (c2 c2_ c3_) (tS h (Bj []))))
def Kn(aaE:Int):Option Bool:=
 ((bif ((decide (aaE<=64))==true) then D1 (A3 aaE) else some false).bind λx1=>(some (bif (decide (aaE<=64)) then x1 else false)))
theorem Wt(h:Kn v1=some v3):sP 254 [(M4 v1)] [] (.bool v3) []:=
 sG Tryz.func254 λΓ q=>Ag q [0] [] (tB h λx1 y1 h=>tT q [2] [] [(Z9 x1)] (Qy ((decide (v1<=64))==true) (c2 (λ(hg:((decide (v1<=64))==true)=true)=>(En (B4 hg y1))) (O9 (decide (v1<=64))))) (tS h (Bj [])))
def Nv(a2:A6):Option Bool:=
 (bif (a2.Kind==0) then((H5 a2.Imm a2.Bits).bind λx1=>(some (x1==a2.Imm))) else(bif (a2.Kind==14) then((Kn a2.Imm).bind λx2=>(some (bif x2 then(decide (a2.Imm<(Du a2.Bits))) else false))) else(bif (a2.Kind==15) then((Kn a2.Imm).bind λx3=>(some (bif x3 then(decide (((Du a2.Bits):Int)<a2.Imm)) else false))) else(bif (a2.Kind==22) then(some (decide (a2.Imm<(Du a2.Lanes)))) else(some (a2.Imm==0))))))
theorem LQ(h:Nv v6=some v3):sP 242 [(EM v6)] [] (.bool v3) []:=
 sG Tryz.func242 λΓ q=>tW q [1] [1] [1,4] [1] (Ag q [1,4,5] [1] (gC h (λh=>tB h λx1 y1 h=>tT q [2] [] [(TK x1)] (c1 (Kt y1)) (tS h (Bj []))) λh=>Ag q [1,4,15] [1] (gC h (λh=>tB h λx2 y2 h=>tT q [2] [] [(Z9 x2)] (ci (Wt y2) (uh (x2==true) (c1 (O9 x2)))) (tS h (Bj []))) λh=>Ag q [1,4,28] [1] (gC h (λh=>tB h λx3 y3 h=>tT q [2] [] [(Z9 x3)] (ci (Wt y3) (uh (x3==true) (c1 (O9 x3)))) (tS h (Bj []))) λh=>Ag q [1,41] [1] (gC h (λh=>Ag q [2] [] (tS h (Bj []))) λh=>Ag q [2] [] (tS h (Bj [])))))))
abbrev ck:=((Int×Int))
abbrev rL:=(List (Int×Int))
def Gf(a_shapes:List ck):Option rL:=
 (some a_shapes)
variable{v21:List ck}{v22:List ck}
theorem Gu(h:Gf v21=some v22):sP 245 [(pU v21)] [] (pU v22) []:=
 sG Tryz.func245 λΓ q=>gR q [0] [] [(2,xD)] [] (c1 (Be 2 B2 ((0:Int),(0:Int)))) (Ag q [2] [] (tS h (Bj [])))
abbrev uR:=(Int×List (Int×Int))
def Cj :uR->Option (LR (Int×List (Int×Int)) (List (Int×Int))):=
 λ((i7,l8):uR)=>(bif (decide (i7<(l8.length:Int))) then(Az (0<=i7/\0+i7.toNat<=l8.length) (Az (0<=i7/\0+i7.toNat<=l8.length) (some (.next ((A3 (i7+((Nat.min ((0+i7.toNat)-0) (l8.length-(0+i7.toNat))):Int))),(WX l8 (0+i7.toNat) (Nat.min ((0+i7.toNat)-0) (l8.length-(0+i7.toNat))) (λi=>l8.getD (0+i) ((0:Int),(0:Int))))))))) else(some (.done l8)))
def kY(x3:G2):=(List.replicate (A3 x3.2).toNat ((0:Int),(0:Int)))
def xd(x3:G2)(aC:List ck):=(WX (kY x3) 0 (Nat.min aC.length ((kY x3).length-0)) (λi=>aC.getD i ((0:Int),(0:Int))))
def xc(l8:List ck)(i7:Int):=(WX l8 (0+i7.toNat) (Nat.min ((0+i7.toNat)-0) (l8.length-(0+i7.toNat))) (λi=>l8.getD (0+i) ((0:Int),(0:Int))))
def B3(aC:List ck)(aaB:Int):Option rL:=
 (Option.bind (α:=Unit) (bif (decide (aaB<0)) then none else(some ())) (λx1=>(match x1 with|_=>((Ml (Du (aC.length:Int)) (Du aaB)).bind λx3=>(Option.bind (α:=Unit) (bif (bif (decide ((0:Int)<x3.1)) then true else(decide ((9223372036854775807:Int)<x3.2))) then none else(some ())) (λx4=>(match x4 with|_=>(Az (0<=(A3 x3.2)/\(A3 x3.2)<=(A3 x3.2)/\(A3 x3.2)<=(room:Int)) ((Af (S:=uR) (X:=List G2) Cj (((Nat.min aC.length ((List.replicate (A3 x3.2).toNat ((0:Int),(0:Int))).length-0)):Int),(WX (List.replicate (A3 x3.2).toNat ((0:Int),(0:Int))) 0 (Nat.min aC.length ((List.replicate (A3 x3.2).toNat ((0:Int),(0:Int))).length-0)) (λi=>aC.getD i ((0:Int),(0:Int)))))).bind (λx12=>(some x12)))))))))))
theorem P5(h:B3 v21 v1=some v22):sP 246 [(pU v21),(Aq v1)] [] (AV.list 2 B2 ((0:Int),(0:Int)) v22 (.own 20000)) [(20000,.tok 2 88 v22.length)]:=
 sG Tryz.func246 λΓ q=>have hΓ:=q.own;gR q Cy [] [(4,xD)] [] (c1 (Be 2 B2 ((0:Int),(0:Int)))) (tB h λx1 y1 h=>gJ y1 (λ_=>aG Γ .normal (⟨[(0,(pU v21)),(1,(Aq v1))],[],[]⟩:St)) (λy h=>Ag q V7 [] (gC h (λh=>nomatch h) λh=>tS h (gK (B0 (Bs Cy [] q))))) (gA (tB h λx3 y3 h=>tT q [0,5,6] [] [⟨[],[],(.tuple (X9 x3.1 x3.2)),[],[],[]⟩] (c1 (Y1 y3)) (tB h λx4 y4 h=>gJ y4 (λ_=>aG Γ .normal (⟨[(0,(pU v21)),(6,(M4 x3.2))],[],[]⟩:St)) (λy h=>tU q [0,6,26] [] (c2 (gI ((decide ((0:Int)<x3.1))==false)) (Pv (decide ((0:Int)<x3.1)))) (gC h (λh=>nomatch h) λh=>tS h (gK (B0 (Bs [0,6] [] q))))) (gA (tV q [0,7] [30] h λh=>by exact Ka (Le.trans (Pa 30 (show ∀ k_,k_<((A3 x3.2).toNat)->AVleL ((λi_=>AV.eraseAll (λn_=>Bp n_ [30]) ((λ_=>[In,In]) i_)) k_) ((λi=>B2 ((kY x3).getD i ((0:Int),(0:Int)))) k_) from(λk hk=>K8 (e:=B2) (d:=((0:Int),(0:Int))) (.cons (AVle.refl _) (.cons (AVle.refl _) .nil)) _ k (Lb hk)))) (Pb (λ(k_:Nat) u=>(Dv u (Vd 30 k_) [(30,.arr 2 88 k_ (λi=>B2 ((kY x3).getD i ((0:Int),(0:Int)))))])) (show(A3 x3.2).toNat=(kY x3).length from(Pu ..).symm))) (tU q Wa [30] (c1 (Eq.refl ((kY x3).length))) (Ka (Le.trans (Pa 30 (show ∀ k_,k_<((kY x3).length)->AVleL ((λi_=>AV.eraseAll (λn_=>Bp n_ [30]) ((bB (λi=>B2 ((kY x3).getD i ((0:Int),(0:Int)))) 0 (Nat.min v21.length ((kY x3).length-0)) (λi=>B2 (v21.getD i ((0:Int),(0:Int))))) i_)) k_) ((λi=>B2 ((xd x3 v21).getD i ((0:Int),(0:Int)))) k_) from(A8 (Ee ..) (λk_ hk_=>(Bn (AV.eraseAll (λn_=>Bp n_ [30])) ((AQ (e:=B2) (d:=((0:Int),(0:Int))) (l:=(kY x3)) (s:=(λi=>v21.getD i ((0:Int),(0:Int)))) (λ_ _=>rfl) (λ_ _=>rfl)) k_ hk_)).trans rfl)))) (Pb (λ(k_:Nat) u=>(Dv u (Vd 30 k_) [(30,.arr 2 88 k_ (λi=>B2 ((xd x3 v21).getD i ((0:Int),(0:Int)))))])) (show(kY x3).length=(xd x3 v21).length from(Ee ..)))) (tL q h Wa [30] (λu (i7,l8)=>(Dv u [(7,(.vsl 30 l8.length)),(8,(Aq i7))] (s5 l8))) (λu l9=>aG Γ (.exit 0) (⟨(Vd 30 l9.length),(s5 l9),[]⟩:St)) (λ⟨i7,l8⟩ y h=>Ag q [7,8,37] [30] (gC h (λh=>tC h λc10_ h=>tC h λc11_ h=>tU q Wa [30] (c4 c10_ c11_ (Eq.refl l8.length) (Eq.refl l8.length)) (tS h (gN (Le.trans (Le.trans (Pa 30 (show ∀ k_,k_<l8.length->AVleL ((λi_=>AV.eraseAll (λn_=>Bp n_ [30]) ((bB (λi=>B2 (l8.getD i ((0:Int),(0:Int)))) (0+i7.toNat) (Nat.min ((0+i7.toNat)-0) (l8.length-(0+i7.toNat))) (λi=>(λi=>B2 (l8.getD i ((0:Int),(0:Int)))) (0+i))) i_)) k_) ((λi=>B2 ((xc l8 i7).getD i ((0:Int),(0:Int)))) k_) from(A8 (Ee ..) (λk_ hk_=>(Bn (AV.eraseAll (λn_=>Bp n_ [30])) ((AQ (e:=B2) (d:=((0:Int),(0:Int))) (l:=l8) (s:=(λi=>l8.getD (0+i) ((0:Int),(0:Int)))) (λ_ _=>rfl) (λ_ _=>rfl)) k_ hk_)).trans rfl)))) (Pb (λ(k_:Nat) u=>(Dv u (Vd 30 k_) [(30,.arr 2 88 k_ (λi=>B2 ((xc l8 i7).getD i ((0:Int),(0:Int)))))])) (show l8.length=(xc l8 i7).length from(Ee ..)))) Kb)))) λh=>tS h (gO (B0 (Bs [7] [30] q))))) λx12 h=>gA (Ag q [4] [30] (O8 (⟨[(4,(.vsl 30 x12.length))],(s5 x12),[]⟩:St) (tS h (gK (e:=.ret) (Hd fZ (Le.trans (Fg (nm:=30) (sz:=2) (n:=x12.length) (e:=88) (f:=(λi=>B2 (x12.getD i ((0:Int),(0:Int))))) (g:=(λi=>B2 (x12.getD i ((0:Int),(0:Int))))) rfl ⟨rfl,trivial⟩ (λ_ _=>rfl) (by rw[hΓ];rfl)) (Kc (st':=⟨[(4,(AV.list 2 B2 ((0:Int),(0:Int)) x12 (.own 30)))],[(30,.tok 2 88 x12.length)],[]⟩) (by kernel_rfl)))))))))))))))))
def yT(a2:A6):List U8:=[(1,.row 51 (kh a2.Kind a2.Bits a2.Lanes a2.Dst a2.Args a2.Imm)),(3,.row 88 [ZT,ZT]),(4,.row 88 [(Od 64),ZT]),(5,.row 88 [(Aq a2.Bits),(Aq a2.Lanes)]),(6,.row 88 [(Aq a2.Bits),ZT])]
def Nw(a2:A6):Option rL:=
 (bif (a2.Kind==0) then((Gf ([]:List G2)).bind λx1=>(some x1)) else(bif (a2.Kind==13) then((Gf ([((1:Int),(1:Int)),(a2.Bits,a2.Lanes),(a2.Bits,a2.Lanes)]:List G2)).bind λx2=>(some x2)) else(Option.bind (α:=Bool) (bif (a2.Kind==14) then(some (a2.Kind==14)) else(some (a2.Kind==15))) (λx4=>(bif x4 then((Gf ([((A3 a2.Imm),(1:Int))]:List G2)).bind λx6=>(some x6)) else(bif (a2.Kind==16) then((Gf ([((64:Int),(1:Int))]:List G2)).bind λx7=>(some x7)) else(bif (a2.Kind==17) then((Gf ([((64:Int),(1:Int)),(a2.Bits,a2.Lanes)]:List G2)).bind λx8=>(some x8)) else(Option.bind (α:=Bool) (bif (a2.Kind==18) then(some (a2.Kind==18)) else(some (a2.Kind==19))) (λx10=>(bif x10 then((Gf ([((1:Int),(1:Int)),((64:Int),(1:Int)),(a2.Bits,(1:Int))]:List G2)).bind λx12=>(some x12)) else(bif (a2.Kind==20) then((Gf ([((1:Int),(1:Int)),(a2.Bits,(1:Int)),(a2.Bits,(1:Int)),(a2.Bits,(1:Int))]:List G2)).bind λx13=>(some x13)) else(bif (a2.Kind==21) then((B3 ([(a2.Bits,(1:Int))]:List G2) a2.Lanes).bind λx14=>((Gf x14).bind λx15=>(some x15))) else(bif (a2.Kind==22) then((Gf ([(a2.Bits,a2.Lanes)]:List G2)).bind λx16=>(some x16)) else((Gf ([(a2.Bits,a2.Lanes),(a2.Bits,a2.Lanes)]:List G2)).bind λx17=>(some x17)))))))))))))))
theorem CD(h:Nw v6=some v21):sP 210 [(EM v6)] [] (pU v21) []:=
 sG Tryz.func210 λΓ q=>gR q [1] [1] [(2,xD)] [] (c1 (Be 2 B2 ((0:Int),(0:Int)))) (tW q [1,3,4] [1,3,4] AE AE (tW q [1,3,4,5,6,18] AE [1,3,4,5,6,18,19] AE (gC h (λh=>tB h λx1 y1 h=>tT q [2] [] [(ik x1)] (c1 (show(sP 245 [tD] [] (pU x1) []) from(Spec.args (.cons AM .nil) (Gu y1)))) (tS h (Bj []))) λh=>Ag q [1,3,4,5,6,18,22] AE (gC h (λh=>tB h λx2 y2 h=>gR q [2] [] [(27,(AV.list 2 B2 ((0:Int),(0:Int)) ([((1:Int),(1:Int)),(v6.Bits,v6.Lanes),(v6.Bits,v6.Lanes)]:List G2) .exact))] [(ik x2)] (c2 (A0 2 B2 ((0:Int),(0:Int)) ([((1:Int),(1:Int)),(v6.Bits,v6.Lanes),(v6.Bits,v6.Lanes)]:List G2)) (Gu y2)) (tS h (Bj []))) λh=>tB h λx4 y4 h=>gJ y4 (λb3=>aG Γ .normal (⟨[(1,(.ptr 1 0)),LG,LH,GY,EL,(Db 18 v6.Kind),(29,(.bool b3))],(yT v6),[]⟩:St)) (λy h=>Ag q [1,3,4,5,6,18,29] AE (gC h (λh=>tS h (gK (B0 Kb))) λh=>Ag q [1,3,4,5,6,18,29] AE (tS h (gK (B0 Kb))))) (gA (gC h (λh=>tB h λx6 y6 h=>gR q [2] [] [(36,(AV.list 2 B2 ((0:Int),(0:Int)) ([((A3 v6.Imm),(1:Int))]:List G2) .exact))] [(ik x6)] (c2 (A0 2 B2 ((0:Int),(0:Int)) ([((A3 v6.Imm),(1:Int))]:List G2)) (Gu y6)) (tS h (Bj []))) λh=>Ag q [1,3,4,5,6,18,38] AE (gC h (λh=>tB h λx7 y7 h=>gR q [2] [] [(41,(AV.list 2 B2 ((0:Int),(0:Int)) ([((64:Int),(1:Int))]:List G2) .exact))] [(ik x7)] (c2 (A0 2 B2 ((0:Int),(0:Int)) ([((64:Int),(1:Int))]:List G2)) (Gu y7)) (tS h (Bj []))) λh=>Ag q [1,3,4,5,6,18,43] AE (gC h (λh=>tB h λx8 y8 h=>gR q [2] [] [(47,(AV.list 2 B2 ((0:Int),(0:Int)) ([((64:Int),(1:Int)),(v6.Bits,v6.Lanes)]:List G2) .exact))] [(ik x8)] (c2 (A0 2 B2 ((0:Int),(0:Int)) ([((64:Int),(1:Int)),(v6.Bits,v6.Lanes)]:List G2)) (Gu y8)) (tS h (Bj []))) λh=>tB h λx10 y10 h=>gJ y10 (λb9=>aG Γ .normal (⟨[(1,(.ptr 1 0)),LG,LH,GY,EL,(Db 18 v6.Kind),(49,(.bool b9))],(yT v6),[]⟩:St)) (λy h=>Ag q [1,3,4,5,6,18,49] AE (gC h (λh=>tS h (gK (B0 Kb))) λh=>Ag q [1,3,4,5,6,18,49] AE (tS h (gK (B0 Kb))))) (gA (gC h (λh=>tB h λx12 y12 h=>gR q [2] [] [(55,(AV.list 2 B2 ((0:Int),(0:Int)) ([((1:Int),(1:Int)),((64:Int),(1:Int)),(v6.Bits,(1:Int))]:List G2) .exact))] [(ik x12)] (c2 (A0 2 B2 ((0:Int),(0:Int)) ([((1:Int),(1:Int)),((64:Int),(1:Int)),(v6.Bits,(1:Int))]:List G2)) (Gu y12)) (tS h (Bj []))) λh=>Ag q [1,3,5,6,18,57] [1,3,5,6] (gC h (λh=>tB h λx13 y13 h=>gR q [2] [] [(63,(AV.list 2 B2 ((0:Int),(0:Int)) ([((1:Int),(1:Int)),(v6.Bits,(1:Int)),(v6.Bits,(1:Int)),(v6.Bits,(1:Int))]:List G2) .exact))] [(ik x13)] (c2 (A0 2 B2 ((0:Int),(0:Int)) ([((1:Int),(1:Int)),(v6.Bits,(1:Int)),(v6.Bits,(1:Int)),(v6.Bits,(1:Int))]:List G2)) (Gu y13)) (tS h (Bj []))) λh=>Ag q [1,5,6,18,65] [1,5,6] (gC h (λh=>tB h λx14 y14 h=>tB h λx15 y15 h=>gR q [2] [] [(68,(AV.list 2 B2 ((0:Int),(0:Int)) ([(v6.Bits,(1:Int))]:List G2) .exact))] [⟨[],[(20000,71)],(AV.list 2 B2 ((0:Int),(0:Int)) x14 (.own 20000)),[(20000,.tok 2 88 x14.length)],[],[]⟩,(ik x15)] (c3 (A0 2 B2 ((0:Int),(0:Int)) ([(v6.Bits,(1:Int))]:List G2)) (P5 y14) (Gu y15)) (tS h (Bj []))) λh=>Ag q [5,73] [5] (gC h (λh=>tB h λx16 y16 h=>gR q [2] [] [(76,(AV.list 2 B2 ((0:Int),(0:Int)) ([(v6.Bits,v6.Lanes)]:List G2) .exact))] [(ik x16)] (c2 (A0 2 B2 ((0:Int),(0:Int)) ([(v6.Bits,v6.Lanes)]:List G2)) (Gu y16)) (tS h (Bj []))) λh=>tB h λx17 y17 h=>gR q [2] [] [(80,(AV.list 2 B2 ((0:Int),(0:Int)) ([(v6.Bits,v6.Lanes),(v6.Bits,v6.Lanes)]:List G2) .exact))] [(ik x17)] (c2 (A0 2 B2 ((0:Int),(0:Int)) ([(v6.Bits,v6.Lanes),(v6.Bits,v6.Lanes)]:List G2)) (Gu y17)) (tS h (Bj [])))))))))))))))
def Km(aJ:Int):Option Bool:=
 (some (bif (decide ((1:Int)<=aJ)) then(decide (aJ<=1023)) else false))
theorem Ws(h:Km v1=some v3):sP 255 [(Aq v1)] [] (.bool v3) []:=
 sG Tryz.func255 λΓ q=>Ag q [0] [] (tU q [2] [] (c2 (gI ((decide ((1:Int)<=v1))==true)) (O9 (decide ((1:Int)<=v1)))) (tS h (Bj [])))
def Hz(a2:A6):Int->Option (LR Int (Unit ⊕ Bool)):=
 λ(i2:Int)=>(bif (decide (i2<(a2.Args.length:Int))) then(Az (Ay i2 a2.Args.length) ((Km (a2.Args.getD i2.toNat 0)).bind λx4=>(bif (!x4) then(some (.done (.inr false))) else(some (.next (A3 (i2+1))))))) else(some (.done (.inl ()))))
def NC(Γ:G8)(a2:A6)(r:Bool):Exit->St->Prop:=fK Tryz.prog Γ Tryz.f243.results.toList [] (.bool r) []
def Ns(a2:A6):Option Bool:=
 ((Nw a2).bind λx1=>(bif ((a2.Args.length:Int)!=(x1.length:Int)) then(some false) else((Af (Hz a2) (0:Int)).bind (λx5=>(match x5 with|(.inl _)=>(some true)|(.inr r7)=>(some r7))))))
theorem LO(h:Ns v6=some v3):sP 243 [(EM v6)] [] (.bool v3) []:=
 sG Tryz.func243 λΓ q=>Ag q [1] [1] (tB h λx1 y1 h=>tT q [1,11] [1] [(ik x1)] (c1 (CD y1)) (gC h (λh=>Ag q [2] [] (tS h (Bj []))) λh=>Ag q [13,14,15] [] (tL q h [13,14,15] [] (λu i2=>(Dv u [(Db 15 i2)] [])) (λu x_=>match x_ with|(.inl _)=>aG Γ (.exit 0) (⟨[],[],[]⟩:St)|(.inr r_)=>aR (NC Γ v6 r_)) (λi2 y h=>Ag q [13,14,15,16] [] (gC h (λh=>tV q [4,13,14,15] [] h λh=>tB h λx4 y4 h=>tT q [13,14,15,21] [] [(Z9 x4)] (c1 (Ws y4)) (gC h (λh=>Ag q [2] [] (tS h (gO (Oa (Hd [] (Le.refl _ _)))))) λh=>Ag q [13,14,15] [] (tN h))) λh=>tS h (gO (B0 (Bs [] [] q))))) λx5 h=>(match x5,h with | .inl _,h=>gA (Ag q [2] [] (tS h (Bj []))) | .inr r7,h=>gAr (λst' hk=>tS h (gK hk))))))
def yU(a2:A6):List U8:=[(1,.row 51 (kh a2.Kind a2.Bits a2.Lanes a2.Dst a2.Args a2.Imm))]
def Nu(a2:A6):Option G2:=
 (Option.bind (α:=Bool) (bif (a2.Kind==17) then(some (a2.Kind==17)) else(some (a2.Kind==19))) (λx2=>(bif x2 then(some ((0:Int),(0:Int))) else(Option.bind (α:=Bool) (bif (a2.Kind==10) then(some (a2.Kind==10)) else(bif (a2.Kind==11) then(some (a2.Kind==11)) else(some (a2.Kind==12)))) (λx5=>(bif x5 then(some ((1:Int),(1:Int))) else(bif (a2.Kind==22) then(some (a2.Bits,(1:Int))) else(some (a2.Bits,a2.Lanes)))))))))
theorem CC(h:Nu v6=some v19):sP 209 [(EM v6)] [] (.tuple [(Aq v19.1),(Aq v19.2)]) []:=
 sG Tryz.func209 λΓ q=>tW q [1] [1] [1,5] [1] (tB h λx2 y2 h=>gJ y2 (λb1=>aG Γ .normal (⟨[(1,(.ptr 1 0)),(5,(Aq v6.Kind)),(6,(.bool b1))],(yU v6),[]⟩:St)) (λy h=>Ag q [1,5,6] [1] (gC h (λh=>tS h (gK (B0 Kb))) λh=>Ag q [1,5,6] [1] (tS h (gK (B0 Kb))))) (gA (gC h (λh=>Ag q F2 [] (tS h (Bj []))) λh=>tB h λx5 y5 h=>gJ y5 (λb4=>aG Γ .normal (⟨[(1,(.ptr 1 0)),(5,(Aq v6.Kind)),(9,(.bool b4))],(yU v6),[]⟩:St)) (λy h=>Ag q [1,5,9] [1] (gC h (λh=>tS h (gK (B0 Kb))) λh=>Ag q [1,5,9] [1] (gC h (λh=>tS h (gK (B0 Kb))) λh=>Ag q [1,5,9] [1] (tS h (gK (B0 Kb)))))) (gA (gC h (λh=>Ag q F2 [] (tS h (Bj []))) λh=>Ag q [1,13] [1] (gC h (λh=>Ag q F2 [] (tS h (Bj []))) λh=>Ag q F2 [] (tS h (Bj []))))))))
def Nt(a2:A6):Option Bool:=
 ((Nu a2).bind λx1=>(bif (x1.1==0) then(some (a2.Dst==0)) else((Km a2.Dst).bind λx2=>(some x2))))
theorem LP(h:Nt v6=some v3):sP 244 [(EM v6)] [] (.bool v3) []:=
 sG Tryz.func244 λΓ q=>Ag q [1] [1] (tB h λx1 y1 h=>tT q [1,3] [1] [⟨[],[],(.tuple [(Aq x1.1),(Aq x1.2)]),[],[],[]⟩] (c1 (CC y1)) (Ag q [1,11] [1] (gC h (λh=>Ag q [2] [] (tS h (Bj []))) λh=>tB h λx2 y2 h=>tT q [2] [] [(Z9 x2)] (c1 (Ws y2)) (tS h (Bj [])))))
def rf(x1:Bool)(x2:Bool):=(bif (!x1) then true else(!x2))
def Ow(a2:A6):Option Bool:=
 ((L1 a2.Kind).bind λx1=>((bif ((!x1)==false) then Qp a2.Bits a2.Lanes else some false).bind λx2=>((bif ((bif (!x1) then true else(!x2))==false) then K7 a2 else some false).bind λx3=>((bif ((bif (bif (!x1) then true else(!x2)) then true else(!x3))==false) then Nv a2 else some false).bind λx4=>(bif (bif (bif (bif (!x1) then true else(!x2)) then true else(!x3)) then true else(!x4)) then(some false) else((Ns a2).bind λx5=>((bif (x5==true) then Nt a2 else some false).bind λx6=>(some (bif x5 then x6 else false)))))))))
theorem Zb(h:Ow v6=some v3):sP 207 [(EM v6)] [] (.bool v3) []:=
 sG Tryz.func207 λΓ q=>Ag q [1] [1] (tB h λx1 y1 h=>tB h λx2 y2 h=>tB h λx3 y3 h=>tB h λx4 y4 h=>tT q [1,24] [1] [(Z9 x1),(Z9 x2),(Z9 x3),(Z9 x4)] (ci (Zc y1) (tk ((!x1)==false) (yB (λ(hg:((!x1)==false)=true)=>(SX (B4 hg y2))) (gI ((!x1)==false)) (Pv (!x1)) (gI ((rf x1 x2)==false)) (λ(hg:((rf x1 x2)==false)=true)=>(FX (B4 hg y3))) (gI ((rf x1 x2)==false)) (Pv (rf x1 x2)) (gI ((bif (rf x1 x2) then true else(!x3))==false)) (λ(hg:((bif (rf x1 x2) then true else(!x3))==false)=true)=>(LQ (B4 hg y4))) (c2 (gI ((bif (rf x1 x2) then true else(!x3))==false)) (Pv (bif (rf x1 x2) then true else(!x3))))))) (gC h (λh=>Ag q [2] [] (tS h (Bj []))) λh=>tB h λx5 y5 h=>tB h λx6 y6 h=>tT q [2] [] [(Z9 x5),(Z9 x6)] (c4 (LO y5) (gI (x5==true)) (λ(hg:(x5==true)=true)=>(LP (B4 hg y6))) (O9 x5)) (tS h (Bj []))))
def Qm(a2:A6)(aa5:Int):Option Bool:=
 (bif (aa5==0) then(some (bif (decide (a2.Kind<=17)) then(a2.Lanes==1) else false)) else(bif (aa5==1) then(some (bif (decide (a2.Kind<=20)) then(a2.Lanes==1) else false)) else(some true)))
theorem SR(h:Qm v6 v1=some v3):sP 208 [(EM v6),(Aq v1)] [] (.bool v3) []:=
 sG Tryz.func208 λΓ q=>tW q R9 [2] [2,5] [2] (Ag q T0 [2] (gC h (λh=>tU q [4] [] (Qy ((decide (v6.Kind<=17))==true) (c1 (O9 (decide (v6.Kind<=17))))) (tS h (Bj []))) λh=>Ag q T3 [2] (gC h (λh=>tU q [4] [] (Qy ((decide (v6.Kind<=20))==true) (c1 (O9 (decide (v6.Kind<=20))))) (tS h (Bj []))) λh=>Ag q [4] [] (tS h (Bj [])))))
abbrev Zt:=(Bool×Aa×Int×Ad×List Bd)
def F7(a2:A6)(a3:Aa)(a7:Int)(a0:Ad)(a4:List Bd):Option Zt:=
 ((Ow a2).bind λx1=>((bif (x1==true) then Qm a2 a7 else some false).bind λx2=>(some ((bif x1 then x2 else false),a3,a7,a0,a4))))
variable{v23:Zt}
theorem Tq(h:F7 v6 v0 v1 v2 v12=some v23):sP 182 [(F3 30000),(EM v6)] (Z4 v0.Params v0.Ret v0.Blocks v1 v2 v12 v12.length) (.bool v23.1) (Z4 v23.2.1.Params v23.2.1.Ret v23.2.1.Blocks v23.2.2.1 v23.2.2.2.1 v23.2.2.2.2 v23.2.2.2.2.length):=
 sG Tryz.func182 λΓ q=>Ag q Ln RD (tB h λx1 y1 h=>tB h λx2 y2 h=>tT q [4] C3 [(Z9 x1),(Z9 x2)] (ci (Zb y1) (uh (x1==true) (c2 (λ(hg:(x1==true)=true)=>(SR (B4 hg y2))) (O9 x1)))) (tS h (Bj Wy)))
abbrev P9:=(Int×Ad×Int×List Ab×Int×Ad×List Bd)
abbrev wa:=(LR (Int×Ad×Int×List Ab×Int×Ad×List Bd) ((Ad×Int×List Ab×Int×Ad×List Bd) ⊕ (Bool×Aa×Int×Ad×List Bd)))
def Fc(aA:List A6):P9->Option wa:=
 λ((i1,l2,i3,l4,i5,l6,l7):P9)=>(bif (decide (i1<(aA.length:Int))) then(Az (Ay i1 aA.length) ((F7 (aA.getD i1.toNat default) (⟨l2,i3,l4⟩:Aa) i5 l6 l7).bind λx15=>(bif (!x15.1) then(some (.done (.inr (false,x15.2.1,x15.2.2.1,x15.2.2.2.1,x15.2.2.2.2)))) else(some (.next ((A3 (i1+1)),x15.2.1.Params,x15.2.1.Ret,x15.2.1.Blocks,x15.2.2.1,x15.2.2.2.1,x15.2.2.2.2)))))) else(some (.done (.inl (l2,i3,l4,i5,l6,l7)))))
def CV(Γ:G8)(aA:List A6)(a3:Aa)(a7:Int)(a0:Ad)(a4:List Bd)(r:Zt):Exit->St->Prop:=fK Tryz.prog Γ Tryz.f181.results.toList (Z4 a3.Params a3.Ret a3.Blocks a7 a0 a4 a4.length) (.bool r.1) (Z4 r.2.1.Params r.2.1.Ret r.2.1.Blocks r.2.2.1 r.2.2.2.1 r.2.2.2.2 r.2.2.2.2.length)
def I7(aA:List A6)(a3:Aa)(a7:Int)(a0:Ad)(a4:List Bd):Option Zt:=
 ((Af (Fc aA) ((0:Int),a3.Params,a3.Ret,a3.Blocks,a7,a0,a4)).bind (λx16=>(match x16 with|(.inl (l8,i9,l10,i11,l12,l13))=>(some (true,(⟨l8,i9,l10⟩:Aa),i11,l12,l13))|(.inr r18)=>(some r18))))
theorem BM(h:I7 v7 v0 v1 v2 v12=some v23):sP 181 [(TJ v7),(.clo 182 CZ [])] (Z4 v0.Params v0.Ret v0.Blocks v1 v2 v12 v12.length) (.bool v23.1) (Z4 v23.2.1.Params v23.2.1.Ret v23.2.1.Blocks v23.2.2.1 v23.2.2.2.1 v23.2.2.2.2 v23.2.2.2.2.length):=
 sG Tryz.func181 λΓ q=>tW q Cy C3 J2 C3 (tL q h J2 C3 (λu (i1,l2,i3,l4,i5,l6,l7)=>(Dv u [(9,(Aq i1))] (Z4 l2 i3 l4 i5 l6 l7 l7.length))) (λu x_=>match x_ with|(.inl (l8,i9,l10,i11,l12,l13))=>aG Γ (.exit 0) (⟨[],(Z4 l8 i9 l10 i11 l12 l13 l13.length),[]⟩:St)|(.inr r_)=>aR (CV Γ v7 v0 v1 v2 v12 r_)) (λ⟨i1,l2,i3,l4,i5,l6,l7⟩ y h=>Ag q KZ C3 (gC h (λh=>tV q LA [6,30000,37006] h λh=>tB h λx15 y15 h=>tT q RS C3 [(xG x15.1 x15.2.1.Params x15.2.1.Ret x15.2.1.Blocks x15.2.2.1 x15.2.2.2.1 x15.2.2.2.2 x15.2.2.2.2.length)] (c1 (Tq y15)) (gC h (λh=>Ag q [4] C3 (tS h (gO (Oa (Hd Wy (Le.refl _ _)))))) λh=>Ag q J2 C3 (tN h))) λh=>tS h (gO (B0 (Bs [] C3 q))))) λx16 h=>(match x16,h with | .inl ⟨l8,i9,l10,i11,l12,l13⟩,h=>gA (Ag q [4] C3 (tS h (Bj Wy))) | .inr r18,h=>gAr (λst' hk=>tS h (gK hk))))
def xg(x1:Bool)(x2:Zt)(a0:Ad):AV:=(yf x1 x2.2.2.2.1 a0)
def xf(x1:Bool)(x2:Zt)(a3:Aa):AV:=(yf x1 x2.2.1.Params a3.Params)
def xe(x1:Bool)(x2:Zt)(a3:Aa):AV:=(.slice 5 (bif (x1==true) then x2.2.1.Blocks.length else a3.Blocks.length) (λi=>bif (x1==true) then Bf (x2.2.1.Blocks.getD i default) else Bf (a3.Blocks.getD i default)) .none)
def Eu(aO:Ab)(a3:Aa)(a7:Int)(a0:Ad)(a4:List Bd):Option Zt:=
 ((Ib aO.Phis).bind λx1=>((bif (x1==true) then I7 aO.Ops a3 a7 a0 a4 else some (false,(default:Aa),(0:Int),[],[])).bind λx2=>(some ((bif x1 then x2.1 else false),(⟨(bif (x1==true) then x2.2.1.Params else a3.Params),(bif (x1==true) then x2.2.1.Ret else a3.Ret),(bif (x1==true) then x2.2.1.Blocks else a3.Blocks)⟩:Aa),(bif (x1==true) then x2.2.2.1 else a7),(bif (x1==true) then x2.2.2.2.1 else a0),(bif (x1==true) then x2.2.2.2.2 else a4)))))
theorem Qr(h:Eu v9 v0 v1 v2 v12=some v23):sP 148 [(F3 30000),(.agg (Bf v9))] (Z4 v0.Params v0.Ret v0.Blocks v1 v2 v12 v12.length) (.bool v23.1) (Z4 v23.2.1.Params v23.2.1.Ret v23.2.1.Blocks v23.2.2.1 v23.2.2.2.1 v23.2.2.2.2 v23.2.2.2.2.length):=
 sG Tryz.func148 λΓ q=>Ag q Ln RD (tB h λx1 y1 h=>tB h λx2 y2 h=>tT q [4] C3 [(Z9 x1),(xG x2.1 x2.2.1.Params x2.2.1.Ret x2.2.1.Blocks x2.2.2.1 x2.2.2.2.1 x2.2.2.2.2 x2.2.2.2.2.length)] (ci (Y3 y1) (tk (x1==true) (c2 (λ(hg:(x1==true)=true)=>(BM (B4 hg y2))) (O9 x1)))) (tS h (gK (e:=.ret) (Hd Wy (Le.trans (yE (λg_ u=>(Dv u [] [(30000,.row 105 [(xf x1 x2 v0),(.int .i64 (bif (x1==true) then x2.2.1.Ret else v0.Ret)),(xe x1 x2 v0),(.int .i64 (bif (x1==true) then x2.2.2.1 else v1)),(xg x1 x2 v2),.nilm,(xp g_ x2.2.2.2.2 v12)]),(37006,.tok 5 198 (bif g_ then x2.2.2.2.2.length else v12.length))])) (λg_ u=>(Dv u [] [(30000,.row 105 [(xf x1 x2 v0),(.int .i64 (bif (x1==true) then x2.2.1.Ret else v0.Ret)),(xe x1 x2 v0),(.int .i64 (bif (x1==true) then x2.2.2.1 else v1)),(xg x1 x2 v2),.nilm,(AV.list 5 Lg default (bif g_ then x2.2.2.2.2 else v12) (.own 37006))]),(37006,.tok 5 198 ((bif g_ then x2.2.2.2.2 else v12).length))])) (x1==true)) (Le.trans (qL 30000 0 (show AVle (xf x1 x2 v0) (AV.list 1 Ao 0 (bif (x1==true) then x2.2.1.Params else v0.Params) .none) from Hn)) (Le.trans (qL 30000 2 (show AVle (xe x1 x2 v0) (AV.list 5 Bf default (bif (x1==true) then x2.2.1.Blocks else v0.Blocks) .none) from Hn)) (qL 30000 4 (show AVle (xg x1 x2 v2) (AV.list 1 Ao 0 (bif (x1==true) then x2.2.2.2.1 else v2) .none) from Hn)))))))))
def D7(aA:List Ab):P9->Option wa:=
 λ((i1,l2,i3,l4,i5,l6,l7):P9)=>(bif (decide (i1<(aA.length:Int))) then(Az (Ay i1 aA.length) ((Eu (aA.getD i1.toNat default) (⟨l2,i3,l4⟩:Aa) i5 l6 l7).bind λx15=>(bif (!x15.1) then(some (.done (.inr (false,x15.2.1,x15.2.2.1,x15.2.2.2.1,x15.2.2.2.2)))) else(some (.next ((A3 (i1+1)),x15.2.1.Params,x15.2.1.Ret,x15.2.1.Blocks,x15.2.2.1,x15.2.2.2.1,x15.2.2.2.2)))))) else(some (.done (.inl (l2,i3,l4,i5,l6,l7)))))
def W4(Γ:G8)(aA:List Ab)(a3:Aa)(a7:Int)(a0:Ad)(a4:List Bd)(r:Zt):Exit->St->Prop:=fK Tryz.prog Γ Tryz.f147.results.toList (Z4 a3.Params a3.Ret a3.Blocks a7 a0 a4 a4.length) (.bool r.1) (Z4 r.2.1.Params r.2.1.Ret r.2.1.Blocks r.2.2.1 r.2.2.2.1 r.2.2.2.2 r.2.2.2.2.length)
def G9(aA:List Ab)(a3:Aa)(a7:Int)(a0:Ad)(a4:List Bd):Option Zt:=
 ((Af (D7 aA) ((0:Int),a3.Params,a3.Ret,a3.Blocks,a7,a0,a4)).bind (λx16=>(match x16 with|(.inl (l8,i9,l10,i11,l12,l13))=>(some (true,(⟨l8,i9,l10⟩:Aa),i11,l12,l13))|(.inr r18)=>(some r18))))
theorem Vx(h:G9 v10 v0 v1 v2 v12=some v23):sP 147 [(GW v10),(.clo 148 CZ [])] (Z4 v0.Params v0.Ret v0.Blocks v1 v2 v12 v12.length) (.bool v23.1) (Z4 v23.2.1.Params v23.2.1.Ret v23.2.1.Blocks v23.2.2.1 v23.2.2.2.1 v23.2.2.2.2 v23.2.2.2.2.length):=
 sG Tryz.func147 λΓ q=>tW q Cy C3 J2 C3 (tL q h J2 C3 (λu (i1,l2,i3,l4,i5,l6,l7)=>(Dv u [(9,(Aq i1))] (Z4 l2 i3 l4 i5 l6 l7 l7.length))) (λu x_=>match x_ with|(.inl (l8,i9,l10,i11,l12,l13))=>aG Γ (.exit 0) (⟨[],(Z4 l8 i9 l10 i11 l12 l13 l13.length),[]⟩:St)|(.inr r_)=>aR (W4 Γ v10 v0 v1 v2 v12 r_)) (λ⟨i1,l2,i3,l4,i5,l6,l7⟩ y h=>Ag q KZ C3 (gC h (λh=>tV q LA [6,30000,37006] h λh=>tB h λx15 y15 h=>tT q RS C3 [(xG x15.1 x15.2.1.Params x15.2.1.Ret x15.2.1.Blocks x15.2.2.1 x15.2.2.2.1 x15.2.2.2.2 x15.2.2.2.2.length)] (c1 (Qr y15)) (gC h (λh=>Ag q [4] C3 (tS h (gO (Oa (Hd Wy (Le.refl _ _)))))) λh=>Ag q J2 C3 (tN h))) λh=>tS h (gO (B0 (Bs [] C3 q))))) λx16 h=>(match x16,h with | .inl ⟨l8,i9,l10,i11,l12,l13⟩,h=>gA (Ag q [4] C3 (tS h (Bj Wy))) | .inr r18,h=>gAr (λst' hk=>tS h (gK hk))))
def ig(x1:Bool)(x2:Bool):=((bif x1 then x2 else false)==true)
def xj(x1:Bool)(x2:Bool)(x3:Zt)(a0:Ad):AV:=(xB (ig x1 x2) x3.2.2.2.1 a0)
def xi(x1:Bool)(x2:Bool)(x3:Zt)(a3:Aa):AV:=(xB (ig x1 x2) x3.2.1.Params a3.Params)
def xh(x1:Bool)(x2:Bool)(x3:Zt)(a3:Aa):AV:=(ya (ig x1 x2) x3.2.1.Blocks a3.Blocks)
def Ha(a3:Aa)(a7:Int)(a0:Ad)(a4:List Bd):Option jx:=
 ((Ma a3.Params).bind λx1=>((bif (x1==true) then D1 a3.Ret else some false).bind λx2=>((bif ((bif x1 then x2 else false)==true) then G9 a3.Blocks a3 a7 a0 a4 else some (false,(default:Aa),(0:Int),[],[])).bind λx3=>((Kf (bif (bif x1 then x2 else false) then x3.1 else false) (6:Int)).bind λx4=>(some (x4,(⟨(bif ((bif x1 then x2 else false)==true) then x3.2.1.Params else a3.Params),(bif ((bif x1 then x2 else false)==true) then x3.2.1.Ret else a3.Ret),(bif ((bif x1 then x2 else false)==true) then x3.2.1.Blocks else a3.Blocks)⟩:Aa),(bif ((bif x1 then x2 else false)==true) then x3.2.2.1 else a7),(bif ((bif x1 then x2 else false)==true) then x3.2.2.2.1 else a0),(bif ((bif x1 then x2 else false)==true) then x3.2.2.2.2 else a4)))))))
theorem Vy(h:Ha v0 v1 v2 v12=some v13):sP 89 CZ (Z4 v0.Params v0.Ret v0.Blocks v1 v2 v12 v12.length) (Aq v13.1) (Z4 v13.2.1.Params v13.2.1.Ret v13.2.1.Blocks v13.2.2.1 v13.2.2.2.1 v13.2.2.2.2 v13.2.2.2.2.length):=
 sG Tryz.func89 λΓ q=>Ag q [0] C3 (tB h λx1 y1 h=>tB h λx2 y2 h=>tB h λx3 y3 h=>tT q [3] C3 [(Z9 x1),(Z9 x2),(xG x3.1 x3.2.1.Params x3.2.1.Ret x3.2.1.Blocks x3.2.2.1 x3.2.2.2.1 x3.2.2.2.2 x3.2.2.2.2.length)] (ci (HU y1) (uh (x1==true) (NT (λ(hg:(x1==true)=true)=>(En (B4 hg y2))) (O9 x1) (yq (ig x1 x2) (c2 (λ(hg:(ig x1 x2)=true)=>(Vx (B4 hg y3))) (O9 (bif x1 then x2 else false))))))) (Ka (Le.trans (yE (λg_ u=>(Dv u [] [(30000,.row 105 [(xi x1 x2 x3 v0),(ZS (ig x1 x2) x3.2.1.Ret v0.Ret),(xh x1 x2 x3 v0),(ZS (ig x1 x2) x3.2.2.1 v1),(xj x1 x2 x3 v2),.nilm,(xp g_ x3.2.2.2.2 v12)]),(37006,.tok 5 198 (bif g_ then x3.2.2.2.2.length else v12.length))])) (λg_ u=>(Dv u [] [(30000,.row 105 [(xi x1 x2 x3 v0),(ZS (ig x1 x2) x3.2.1.Ret v0.Ret),(xh x1 x2 x3 v0),(ZS (ig x1 x2) x3.2.2.1 v1),(xj x1 x2 x3 v2),.nilm,(AV.list 5 Lg default (bif g_ then x3.2.2.2.2 else v12) (.own 37006))]),(37006,.tok 5 198 ((bif g_ then x3.2.2.2.2 else v12).length))])) (ig x1 x2)) (Le.trans (qL 30000 0 (show AVle (xi x1 x2 x3 v0) (AV.list 1 Ao 0 (bif (ig x1 x2) then x3.2.1.Params else v0.Params) .none) from Hn)) (Le.trans (qL 30000 2 (show AVle (xh x1 x2 x3 v0) (AV.list 5 Bf default (bif (ig x1 x2) then x3.2.1.Blocks else v0.Blocks) .none) from Hn)) (qL 30000 4 (show AVle (xj x1 x2 x3 v2) (AV.list 1 Ao 0 (bif (ig x1 x2) then x3.2.2.2.1 else v2) .none) from Hn))))) (tB h λx4 y4 h=>tT q [2] C3 [(MJ x4)] (c1 (Wo y4)) (tS h (Bj Wy)))))
def Di(aE:Int):Option G2:=
 (some (aE,(1:Int)))
theorem Ji(h:Di v1=some v19):sP 149 [(Aq v1)] [] (.agg (B2 v19)) []:=
 sG Tryz.func149 λΓ q=>tW q [0,2] [2] [2] [2] (tS h (Bj []))
def uc:=(λ(v_:Aw)=>((Ve v_):AV))
abbrev L4:=(Int×Aw)
abbrev cl:=(Bool×Aa×Int×Ad×List Bd×List (Int×Aw))
def Ew(aJ:Int)(aaI:G2)(aK:Ix)(a3:Aa)(a7:Int)(a0:Ad)(a1:List L4)(a4:List Bd):Option cl:=
 (bif (bif (bif (Eg a1 aJ) then true else(decide (aJ<1))) then true else(decide ((1023:Int)<aJ))) then(some (false,a3,a7,a0,a4,a1)) else(some (true,a3,a7,a0,a4,(Kp a1 aJ (⟨aaI,aK⟩:Aw)))))
variable{v24:Ix}{v25:List L4}{v26:cl}
theorem Mx(h:Ew v1 v19 v24 v0 v11 v2 v25 v12=some v26):sP 183 [(F3 30000),(Aq v1),(.agg (B2 v19)),(.agg (MR v24))] [(Z2 v0.Params v0.Ret v0.Blocks v11 v2 9100005 v12),(Gy 37006 198 v12.length),(9100005,.obj (.map true .i64 (C7 (λ(v_:Aw)=>((Ve v_):AV)) v25)))] (.bool v26.1) [(Z2 v26.2.1.Params v26.2.1.Ret v26.2.1.Blocks v26.2.2.1 v26.2.2.2.1 9100005 v26.2.2.2.2.1),(Gy 37006 198 v26.2.2.2.2.1.length),(9100005,.obj (.map true .i64 (C7 (λ(v_:Aw)=>((Ve v_):AV)) v26.2.2.2.2.2)))]:=
 sG Tryz.func183 λΓ q=>Ag q RK iL (gR q [0,1,6,7,10] iL [(17,(.tuple [(rj v25 v1),(.bool (Eg v25 v1))]))] [] (c1 (show(AVle (.tuple [Fu (.agg [In,In,In,In]) (C7 uc v25) v1,.bool (Eg (C7 uc v25) v1)]) (.tuple [(rj v25 v1),(.bool (Eg v25 v1))])) from(bh (f:=uc) (l:=v25) (AVle.refl _) rfl))) (tU q [0,1,6,7,28] iL (c4 (gI ((Eg v25 v1)==false)) (Pv (Eg v25 v1)) (gI ((bif (Eg v25 v1) then true else(decide (v1<1)))==false)) (Pv (bif (Eg v25 v1) then true else(decide (v1<1))))) (gC h (λh=>Ag q [8] Gh (tS h (Bj Qi))) λh=>Ag q [] Gh (Ka (Pb (λ(k_:List wX) u=>Dv u [] [(9100005,.obj (.map true .i64 k_))]) (show(Kp (C7 uc v25) v1 (.agg [(Aq v19.1),(Aq v19.2),(Aq v24.block),(Aq v24.at_)]))=(C7 uc (Kp v25 v1 (⟨v19,v24⟩:Aw))) from(ga (f:=uc) (l:=v25) (v:=(⟨v19,v24⟩:Aw)) rfl rfl))) (Ag q [8] Gh (tS h (Bj Qi)))))))
def Nq(a2:A6):Option G2:=
 ((Ow a2).bind λx1=>(bif (!x1) then(some ((0:Int),(0:Int))) else((Nu a2).bind λx2=>(some (x2.1,x2.2)))))
theorem SW(h:Nq v6=some v19):sP 184 [(EM v6)] [] (.tuple [(Aq v19.1),(Aq v19.2)]) []:=
 sG Tryz.func184 λΓ q=>Ag q [1] [1] (tB h λx1 y1 h=>tT q [1,6] [1] [(Z9 x1)] (c1 (Zb y1)) (gC h (λh=>Ag q F2 [] (tS h (Bj []))) λh=>tB h λx2 y2 h=>tT q F2 [] [⟨[],[],(.tuple [(Aq x2.1),(Aq x2.2)]),[],[],[]⟩] (c1 (CC y2)) (tS h (Bj []))))
set_option maxRecDepth 100000
set_option maxHeartbeats 2000000
abbrev rM:=(Int×Ad×Int×List Ab×Int×Ad×List Bd×List (Int×Aw))
abbrev wb:=(LR (Int×Ad×Int×List Ab×Int×Ad×List Bd×List (Int×Aw)) ((Ad×Int×List Ab×Int×Ad×List Bd×List (Int×Aw)) ⊕ (Bool×Aa×Int×Ad×List Bd×List (Int×Aw))))
def C0(aaG:Int)(aO:Ab):rM->Option wb:=
 λ((i1,l2,i3,l4,i5,l6,l7,l8):rM)=>(bif (decide (i1<(aO.Phis.length:Int))) then(Az (Ay i1 aO.Phis.length) ((Di ((aO.Phis.getD i1.toNat default).Bits)).bind λx17=>((Ew ((aO.Phis.getD i1.toNat default).Dst) x17 (⟨aaG,(-1:Int)⟩:Ix) (⟨l2,i3,l4⟩:Aa) i5 l6 l8 l7).bind λx18=>(bif (!x18.1) then(some (.done (.inr (false,x18.2.1,x18.2.2.1,x18.2.2.2.1,x18.2.2.2.2.1,x18.2.2.2.2.2)))) else(some (.next ((A3 (i1+1)),x18.2.1.Params,x18.2.1.Ret,x18.2.1.Blocks,x18.2.2.1,x18.2.2.2.1,x18.2.2.2.2.1,x18.2.2.2.2.2))))))) else(some (.done (.inl (l2,i3,l4,i5,l6,l7,l8)))))
def B8(aaG:Int)(aO:Ab):rM->Option wb:=
 λ((i21,l22,i23,l24,i25,l26,l27,l28):rM)=>(bif (decide (i21<(aO.Ops.length:Int))) then(Az (Ay i21 aO.Ops.length) ((Nq (aO.Ops.getD i21.toNat default)).bind λx37=>((bif ((decide ((0:Int)<x37.1))==true) then Ew ((aO.Ops.getD i21.toNat default).Dst) (x37.1,x37.2) (⟨aaG,i21⟩:Ix) (⟨l22,i23,l24⟩:Aa) i25 l26 l28 l27 else some (false,(default:Aa),(0:Int),[],[],[])).bind λx38=>(bif (bif (decide ((0:Int)<x37.1)) then(!x38.1) else false) then(some (.done (.inr (false,(⟨(bif ((decide ((0:Int)<x37.1))==true) then x38.2.1.Params else l22),(bif ((decide ((0:Int)<x37.1))==true) then x38.2.1.Ret else i23),(bif ((decide ((0:Int)<x37.1))==true) then x38.2.1.Blocks else l24)⟩:Aa),(bif ((decide ((0:Int)<x37.1))==true) then x38.2.2.1 else i25),(bif ((decide ((0:Int)<x37.1))==true) then x38.2.2.2.1 else l26),(bif ((decide ((0:Int)<x37.1))==true) then x38.2.2.2.2.1 else l27),(bif ((decide ((0:Int)<x37.1))==true) then x38.2.2.2.2.2 else l28))))) else(some (.next ((A3 (i21+1)),(bif ((decide ((0:Int)<x37.1))==true) then x38.2.1.Params else l22),(bif ((decide ((0:Int)<x37.1))==true) then x38.2.1.Ret else i23),(bif ((decide ((0:Int)<x37.1))==true) then x38.2.1.Blocks else l24),(bif ((decide ((0:Int)<x37.1))==true) then x38.2.2.1 else i25),(bif ((decide ((0:Int)<x37.1))==true) then x38.2.2.2.1 else l26),(bif ((decide ((0:Int)<x37.1))==true) then x38.2.2.2.2.1 else l27),(bif ((decide ((0:Int)<x37.1))==true) then x38.2.2.2.2.2 else l28)))))))) else(some (.done (.inl (l22,i23,l24,i25,l26,l27,l28)))))
def Ld(Γ:G8)(aaG:Int)(aO:Ab)(a3:Aa)(a7:Int)(a0:Ad)(a1:List L4)(a4:List Bd)(r:cl):Exit->St->Prop:=fK Tryz.prog Γ Tryz.f150.results.toList [(Z2 a3.Params a3.Ret a3.Blocks a7 a0 9100005 a4),(Gy 37006 198 a4.length),(9100005,.obj (.map true .i64 (C7 (λ(v_:Aw)=>((Ve v_):AV)) a1)))] (.bool r.1) [(Z2 r.2.1.Params r.2.1.Ret r.2.1.Blocks r.2.2.1 r.2.2.2.1 9100005 r.2.2.2.2.1),(Gy 37006 198 r.2.2.2.2.1.length),(9100005,.obj (.map true .i64 (C7 (λ(v_:Aw)=>((Ve v_):AV)) r.2.2.2.2.2)))]
def dA(x37:G2):=((decide ((0:Int)<x37.1))==true)
def pN:=(λ(v_:Aw)=>((Ve v_):AV))
def xl(x37:G2)(x38:cl)(l26:Ad):AV:=(xB (dA x37) x38.2.2.2.1 l26)
def xm(x37:G2)(x38:cl)(l24:List Ab):AV:=(ya (dA x37) x38.2.1.Blocks l24)
def xk(x37:G2)(x38:cl)(l22:Ad):AV:=(xB (dA x37) x38.2.1.Params l22)
def E8(aaG:Int)(aO:Ab)(a3:Aa)(a7:Int)(a0:Ad)(a1:List L4)(a4:List Bd):Option cl:=
 ((Af (C0 aaG aO) ((0:Int),a3.Params,a3.Ret,a3.Blocks,a7,a0,a4,a1)).bind (λx19=>(match x19 with|(.inl (l9,i10,l11,i12,l13,l14,l15))=>((Af (B8 aaG aO) ((0:Int),l9,i10,l11,i12,l13,l14,l15)).bind (λx39=>(match x39 with|(.inl (l29,i30,l31,i32,l33,l34,l35))=>(some (true,(⟨l29,i30,l31⟩:Aa),i32,l33,l34,l35))|(.inr r41)=>(some r41))))|(.inr r42)=>(some r42))))
theorem Rp(h:E8 v1 v9 v0 v11 v2 v25 v12=some v26):sP 150 [(F3 30000),(Aq v1),(.agg (Bf v9))] [(Z2 v0.Params v0.Ret v0.Blocks v11 v2 9100005 v12),(Gy 37006 198 v12.length),(9100005,.obj (.map true .i64 (C7 (λ(v_:Aw)=>((Ve v_):AV)) v25)))] (.bool v26.1) [(Z2 v26.2.1.Params v26.2.1.Ret v26.2.1.Blocks v26.2.2.1 v26.2.2.2.1 9100005 v26.2.2.2.2.1),(Gy 37006 198 v26.2.2.2.2.1.length),(9100005,.obj (.map true .i64 (C7 (λ(v_:Aw)=>((Ve v_):AV)) v26.2.2.2.2.2)))]:=
 sG Tryz.func150 λΓ q=>tW q V9 KY fD KY (tL q h fD KY (λu (i1,l2,i3,l4,i5,l6,l7,l8)=>(Dv u [(Db 16 i1)] [(Z2 l2 i3 l4 i5 l6 9100005 l7),(Gy 37006 198 l7.length),(9100005,.obj (.map true .i64 (C7 pN l8)))])) (λu x_=>match x_ with|(.inl (l9,i10,l11,i12,l13,l14,l15))=>aG Γ (.exit 0) (V4 V9 KY u [] [(Z2 l9 i10 l11 i12 l13 9100005 l14),(Gy 37006 198 l14.length),(9100005,.obj (.map true .i64 (C7 pN l15)))])|(.inr r_)=>aR (Ld Γ v1 v9 v0 v11 v2 v25 v12 r_)) (λ⟨i1,l2,i3,l4,i5,l6,l7,l8⟩ y h=>Ag q [0,1,5,14,15,16,17] KY (gC h (λh=>tV q [0,1,5,8,14,15,16] [5,8,30000,37006,9100005] h λh=>tB h λx17 y17 h=>tB h λx18 y18 h=>tT q [0,1,5,14,15,16,29] KY [(kj x17),⟨Qi,[],(.bool x18.1),[(Z2 x18.2.1.Params x18.2.1.Ret x18.2.1.Blocks x18.2.2.1 x18.2.2.2.1 9100005 x18.2.2.2.2.1),(Gy 37006 198 x18.2.2.2.2.1.length),(9100005,.obj (.map true .i64 (C7 pN x18.2.2.2.2.2)))],[],[]⟩] (c2 (Ji y17) (Mx y18)) (gC h (λh=>Ag q [6] Gh (tS h (gO (Oa (Hd Qi (Le.refl _ _)))))) λh=>Ag q fD KY (tN h))) λh=>tS h (gO (B0 (Bs V9 KY q))))) λx19 h=>(match x19,h with | .inl ⟨l9,i10,l11,i12,l13,l14,l15⟩,h=>gA (Ag q fH Gh (tL q h fH Gh (λu (i21,l22,i23,l24,i25,l26,l27,l28)=>(Dv u [(Db 34 i21)] [(Z2 l22 i23 l24 i25 l26 9100005 l27),(Gy 37006 198 l27.length),(9100005,.obj (.map true .i64 (C7 pN l28)))])) (λu x_=>match x_ with|(.inl (l29,i30,l31,i32,l33,l34,l35))=>aG Γ (.exit 2) (⟨[],[(Z2 l29 i30 l31 i32 l33 9100005 l34),(Gy 37006 198 l34.length),(9100005,.obj (.map true .i64 (C7 pN l35)))],[]⟩:St)|(.inr r_)=>aR (Ld Γ v1 v9 v0 v11 v2 v25 v12 r_)) (λ⟨i21,l22,i23,l24,i25,l26,l27,l28⟩ y h=>Ag q [0,1,32,33,34,35] Gh (gC h (λh=>tV q [0,1,9,10,32,33,34] nt h λh=>tB h λx37 y37 h=>tT q [0,1,9,10,11,12,32,33,34] nt [⟨[],[],(.tuple [(Aq x37.1),(Aq x37.2)]),[],[],[]⟩] (c1 (SW y37)) (tB h λx38 y38 h=>tT q [0,1,32,33,34,58] Gh [⟨Qi,[],(.bool x38.1),[(Z2 x38.2.1.Params x38.2.1.Ret x38.2.1.Blocks x38.2.2.1 x38.2.2.2.1 9100005 x38.2.2.2.2.1),(Gy 37006 198 x38.2.2.2.2.1.length),(9100005,.obj (.map true .i64 (C7 pN x38.2.2.2.2.2)))],[],[]⟩] (yu (dA x37) (c3 (λ(hg:(dA x37)=true)=>(Mx (B4 hg y38))) (gI (dA x37)) (O9 (decide ((0:Int)<x37.1))))) (Ka (Le.trans (Pb (λ(k_:List wX) u=>Dv u [] [(9100005,.obj (.map true .i64 k_))]) (show(bif (dA x37) then(C7 pN x38.2.2.2.2.2) else(C7 pN l28))=(C7 pN (bif (dA x37) then x38.2.2.2.2.2 else l28)) from(lM rfl rfl))) (Le.trans (yE (λg_ u=>(Dv u [] [(30000,.row 105 [(xk x37 x38 l22),(ZS (dA x37) x38.2.1.Ret i23),(xm x37 x38 l24),(ZS (dA x37) x38.2.2.1 i25),(xl x37 x38 l26),(.omap 9100005),(xp g_ x38.2.2.2.2.1 l27)]),(37006,.tok 5 198 (bif g_ then x38.2.2.2.2.1.length else l27.length))])) (λg_ u=>(Dv u [] [(30000,.row 105 [(xk x37 x38 l22),(ZS (dA x37) x38.2.1.Ret i23),(xm x37 x38 l24),(ZS (dA x37) x38.2.2.1 i25),(xl x37 x38 l26),(.omap 9100005),(AV.list 5 Lg default (bif g_ then x38.2.2.2.2.1 else l27) (.own 37006))]),(37006,.tok 5 198 ((bif g_ then x38.2.2.2.2.1 else l27).length))])) (dA x37)) (Le.trans (qL 30000 0 (show AVle (xk x37 x38 l22) (AV.list 1 Ao 0 (bif (dA x37) then x38.2.1.Params else l22) .none) from Hn)) (Le.trans (qL 30000 2 (show AVle (xm x37 x38 l24) (AV.list 5 Bf default (bif (dA x37) then x38.2.1.Blocks else l24) .none) from Hn)) (qL 30000 4 (show AVle (xl x37 x38 l26) (AV.list 1 Ao 0 (bif (dA x37) then x38.2.2.2.1 else l26) .none) from Hn)))))) (gC h (λh=>Ag q [6] Gh (tS h (gO (Oa (Hd Qi (Le.refl _ _)))))) λh=>Ag q fH Gh (tN h))))) λh=>tS h (gO (B0 (Bs [] Gh q))))) λx39 h=>(match x39,h with | .inl ⟨l29,i30,l31,i32,l33,l34,l35⟩,h=>gA (Ag q [6] Gh (tS h (Bj Qi))) | .inr r41,h=>gAr (λst' hk=>tS h (gK hk))))) | .inr r42,h=>gAr (λst' hk=>tS h (gK hk))))
abbrev wc:=(Int×List (Int×Aw))
def Ex(a3:Aa):wc->Option (LR (Int×List (Int×Aw)) (List (Int×Aw))):=
 λ((i1,l2):wc)=>(bif (decide (i1<(a3.Params.length:Int))) then(Az (Ay i1 a3.Params.length) ((Di (a3.Params.getD i1.toNat 0)).bind λx5=>(some (.next ((A3 (i1+1)),(Kp l2 (A3 (i1+1)) (⟨x5,(⟨(0:Int),(-1:Int)⟩:Ix)⟩:Aw))))))) else(some (.done l2)))
abbrev wd:=(Int×List (Int×Aw)×Ad×Int×List Ab×Int×Ad×List Bd)
def Dh(a3:Aa):wd->Option (LR (Int×List (Int×Aw)×Ad×Int×List Ab×Int×Ad×List Bd) ((List (Int×Aw)×Ad×Int×List Ab×Int×Ad×List Bd) ⊕ (Int×Aa×Int×Ad×List Bd×List (Int×Aw)))):=
 λ((i8,l9,l10,i11,l12,i13,l14,l15):wd)=>(bif (decide (i8<(a3.Blocks.length:Int))) then(Az (Ay i8 a3.Blocks.length) ((E8 i8 (a3.Blocks.getD i8.toNat default) (⟨l10,i11,l12⟩:Aa) i13 l14 l9 l15).bind λx24=>(bif (!x24.1) then(some (.done (.inr ((7:Int),x24.2.1,x24.2.2.1,x24.2.2.2.1,x24.2.2.2.2.1,x24.2.2.2.2.2)))) else(some (.next ((A3 (i8+1)),x24.2.2.2.2.2,x24.2.1.Params,x24.2.1.Ret,x24.2.1.Blocks,x24.2.2.1,x24.2.2.2.1,x24.2.2.2.2.1)))))) else(some (.done (.inl (l9,l10,i11,l12,i13,l14,l15)))))
abbrev rN:=(Int×Aa×Int×Ad×List Bd×List (Int×Aw))
def T5(Γ:G8)(a3:Aa)(a7:Int)(a0:Ad)(a4:List Bd)(r:rN):Exit->St->Prop:=fK Tryz.prog Γ Tryz.f90.results.toList (Z4 a3.Params a3.Ret a3.Blocks a7 a0 a4 a4.length) (Aq r.1) [(Z2 r.2.1.Params r.2.1.Ret r.2.1.Blocks r.2.2.1 r.2.2.2.1 9200005 r.2.2.2.2.1),(Gy 37006 198 r.2.2.2.2.1.length),(9200005,.obj (.map false .i64 (C7 (λ(v_:Aw)=>((Ve v_):AV)) r.2.2.2.2.2)))]
def fh:=(λ(v_:Aw)=>((Ve v_):AV))
def yV(l16:List L4)(l17:Ad)(i18:Int)(l19:List Ab)(i20:Int)(l21:Ad)(l22:List Bd):List U8:=[(8,.obj (.map true .i64 (C7 fh l16))),(vf l17 i18 l19 i20 l21 l22),(Gy 37006 198 l22.length)]
def F5(a3:Aa)(a7:Int)(a0:Ad)(a4:List Bd):Option rN:=
 ((Af (Ex a3) ((0:Int),([]:List L4))).bind (λx6=>((Af (Dh a3) ((0:Int),x6,a3.Params,a3.Ret,a3.Blocks,a7,a0,a4)).bind (λx25=>(match x25 with|(.inl (l16,l17,i18,l19,i20,l21,l22))=>(some ((0:Int),(⟨l17,i18,l19⟩:Aa),i20,l21,l22,l16))|(.inr r27)=>(some r27))))))
variable{v27:rN}
theorem Tl(h:F5 v0 v1 v2 v12=some v27):sP 90 CZ (Z4 v0.Params v0.Ret v0.Blocks v1 v2 v12 v12.length) (Aq v27.1) [(Z2 v27.2.1.Params v27.2.1.Ret v27.2.1.Blocks v27.2.2.1 v27.2.2.2.1 9200005 v27.2.2.2.2.1),(Gy 37006 198 v27.2.2.2.2.1.length),(9200005,.obj (.map false .i64 (C7 (λ(v_:Aw)=>((Ve v_):AV)) v27.2.2.2.2.2)))]:=
 sG Tryz.func90 λΓ q=>tW q [0] C3 [0] N9 (Ka (Pb (λ(k_:List wX) u=>Dv u [] [(8,.obj (.map true .i64 k_))]) (show[]=(C7 fh ([]:List L4)) from rfl)) (Ag q YY N9 (tL q h YY N9 (λu (i1,l2)=>(Dv u [(Db 17 i1)] [(8,.obj (.map true .i64 (C7 fh l2)))])) (λu l3=>aG Γ (.exit 0) (V4 [0] N9 u [] [(8,.obj (.map true .i64 (C7 fh l3)))])) (λ⟨i1,l2⟩ y h=>Ag q [0,15,16,17,18] N9 (gC h (λh=>tV q [0,3,4,15,16,17] N9 h λh=>tB h λx5 y5 h=>tT q YY N9 [(kj x5)] (c1 (Ji y5)) (Ka (Pb (λ(k_:List wX) u=>Dv u [] [(8,.obj (.map true .i64 k_))]) (show(Kp (C7 fh l2) (A3 (i1+1)) (.agg [(Aq x5.1),(Aq x5.2),In,(.int .i64 (-1:Int))]))=(C7 fh (Kp l2 (A3 (i1+1)) (⟨x5,(⟨(0:Int),(-1:Int)⟩:Ix)⟩:Aw))) from(ga (f:=fh) (l:=l2) (v:=(⟨x5,(⟨(0:Int),(-1:Int)⟩:Ix)⟩:Aw)) rfl rfl))) (Ag q YY N9 (tN h)))) λh=>tS h (gO (B0 (Bs [0] N9 q))))) λx6 h=>gA (Ag q RT N9 (tL q h RT N9 (λu (i8,l9,l10,i11,l12,i13,l14,l15)=>(Dv u [(Db 39 i8)] [(8,.obj (.map true .i64 (C7 fh l9))),(vf l10 i11 l12 i13 l14 l15),(Gy 37006 198 l15.length)])) (λu x_=>match x_ with|(.inl (l16,l17,i18,l19,i20,l21,l22))=>aG Γ (.exit 2) (⟨[],(yV l16 l17 i18 l19 i20 l21 l22),[]⟩:St)|(.inr r_)=>aR (T5 Γ v0 v1 v2 v12 r_)) (λ⟨i8,l9,l10,i11,l12,i13,l14,l15⟩ y h=>Ag q [0,37,38,39,40] N9 (gC h (λh=>tV q [0,5,6,37,38,39] [6,8,30000,37006] h λh=>tB h λx24 y24 h=>tT q [0,37,38,39,48] N9 [⟨[(30000,30000),(37006,37006),(8,9100005)],[],(.bool x24.1),[(Z2 x24.2.1.Params x24.2.1.Ret x24.2.1.Blocks x24.2.2.1 x24.2.2.2.1 9100005 x24.2.2.2.2.1),(Gy 37006 198 x24.2.2.2.2.1.length),(9100005,.obj (.map true .i64 (C7 fh x24.2.2.2.2.2)))],[],[]⟩] (c1 (Rp y24)) (gC h (λh=>Ag q [2] N9 (O8 (⟨[(2,(.int .i64 (7:Int)))],[(8,.obj (.map true .i64 (C7 fh x24.2.2.2.2.2))),(vf x24.2.1.Params x24.2.1.Ret x24.2.1.Blocks x24.2.2.1 x24.2.2.2.1 x24.2.2.2.2.1),(Gy 37006 198 x24.2.2.2.2.1.length)],[]⟩:St) (tS h (gO (Oa (Hd nY (Le.trans (mH (nm:=8) (.map false .i64 (C7 fh x24.2.2.2.2.2)) rfl (λ_ _ _ _ h_=>bn h_)) (Bs (st':=⟨[(2,(.int .i64 (7:Int)))],[(8,.obj (.map false .i64 (C7 fh x24.2.2.2.2.2))),(vf x24.2.1.Params x24.2.1.Ret x24.2.1.Blocks x24.2.2.1 x24.2.2.2.1 x24.2.2.2.2.1),(Gy 37006 198 x24.2.2.2.2.1.length)],[]⟩) [2] N9 q)))))))) λh=>Ag q RT N9 (tN h))) λh=>tS h (gO (B0 (Bs [] N9 q))))) λx25 h=>(match x25,h with | .inl ⟨l16,l17,i18,l19,i20,l21,l22⟩,h=>gA (Ag q [2] N9 (O8 (⟨[(2,In)],(yV l16 l17 i18 l19 i20 l21 l22),[]⟩:St) (tS h (gK (e:=.ret) (Hd nY (Le.trans (mH (nm:=8) (.map false .i64 (C7 fh l16)) rfl (λ_ _ _ _ h_=>bn h_)) (Bs (st':=⟨[(2,In)],[(8,.obj (.map false .i64 (C7 fh l16))),(vf l17 i18 l19 i20 l21 l22),(Gy 37006 198 l22.length)],[]⟩) [2] N9 q))))))) | .inr r27,h=>gAr (λst' hk=>tS h (gK hk))))))))
abbrev we:=(Ix×Aa×Int×Ad×List Bd)
def E4(aaG:Int)(a3:Aa)(a7:Int)(a0:Ad)(a1:List L4)(a4:List Bd):Option we:=
 (Az (Ay aaG a3.Blocks.length) (some ((⟨aaG,(((a3.Blocks.getD aaG.toNat default).Ops).length:Int)⟩:Ix),a3,a7,a0,a4)))
variable{v28:we}
theorem Kq(h:E4 v1 v0 v11 v2 v25 v12=some v28):sP 186 (oK v1) [(Z2 v0.Params v0.Ret v0.Blocks v11 v2 9100005 v12),(Gy 37006 198 v12.length),(9100005,.obj (.map false .i64 (C7 (λ(v_:Aw)=>((Ve v_):AV)) v25)))] (.agg (MR v28.1)) [(Z2 v28.2.1.Params v28.2.1.Ret v28.2.1.Blocks v28.2.2.1 v28.2.2.2.1 9100005 v28.2.2.2.2),(Gy 37006 198 v28.2.2.2.2.length),(9100005,.obj (.map false .i64 (C7 (λ(v_:Aw)=>((Ve v_):AV)) v25)))]:=
 sG Tryz.func186 λΓ q=>Ag q JG nz (tV q [4] nz h λh=>tS h (Bj Qi))
abbrev rO:=(Aa×Int×Ad×List Bd)
def Dz(aJ:Int)(aaI:G2)(aK:Ix)(a3:Aa)(a7:Int)(a0:Ad)(a1:List L4)(a4:List Bd):Option rO:=
 (Az (a4.length+([(⟨aJ,aaI,aK⟩:Bd)]:List Bd).length<=room) (some (a3,a7,a0,(a4++([(⟨aJ,aaI,aK⟩:Bd)]:List Bd)))))
variable{v29:rO}
theorem H0(h:Dz v1 v19 v24 v0 v11 v2 v25 v12=some v29):sP 185 [(F3 30000),(Aq v1),(.agg (B2 v19)),(.agg (MR v24))] [(Z2 v0.Params v0.Ret v0.Blocks v11 v2 9100005 v12),(Gy 37006 198 v12.length),(9100005,.obj (.map false .i64 (C7 (λ(v_:Aw)=>((Ve v_):AV)) v25)))] (.tuple []) [(Z2 v29.1.Params v29.1.Ret v29.1.Blocks v29.2.1 v29.2.2.1 9100005 v29.2.2.2),(Gy 37006 198 v29.2.2.2.length),(9100005,.obj (.map false .i64 (C7 (λ(v_:Aw)=>((Ve v_):AV)) v25)))]:=
 sG Tryz.func185 λΓ q=>Ag q RK iL (tC h λc1_ h=>gR q [] Gh [(17,(AV.list 5 Lg default ([(⟨v1,v19,v24⟩:Bd)]:List Bd) .exact)),(18,(AV.list 5 Lg default (v12++([(⟨v1,v19,v24⟩:Bd)]:List Bd)) (.own 37006)))] [] (c5 (A0 5 Lg (default:Bd) ([(⟨v1,v19,v24⟩:Bd)]:List Bd)) (Eq.refl v12.length) c1_ (Jr 5 37006 Lg (default:Bd) v12 ([(⟨v1,v19,v24⟩:Bd)]:List Bd)) (D2 v12 ([(⟨v1,v19,v24⟩:Bd)]:List Bd))) (tS h (gK (e:=.normal) (Hd Qi (Le.refl _ _)))))
def w9:List ju:=[(2,xD)]
def Nr(a2:A6):Option rL:=
 ((Ow a2).bind λx1=>(bif (!x1) then(some ([]:List G2)) else((Nw a2).bind λx2=>(some x2))))
theorem SY(h:Nr v6=some v21):sP 187 [(EM v6)] [] (pU v21) []:=
 sG Tryz.func187 λΓ q=>gR q [1] [1] w9 [] (c1 (Be 2 B2 ((0:Int),(0:Int)))) (tB h λx1 y1 h=>tT q [1,5] [1] [(Z9 x1)] (c1 (Zb y1)) (gC h (λh=>gR q [2] [] w9 [] (c1 (Be 2 B2 ((0:Int),(0:Int)))) (O8 (⟨w9,[],[]⟩:St) (tS h (gK (e:=.ret) (Hd [] (show Le Γ _ (⟨[(2,(AV.list 2 B2 ((0:Int),(0:Int)) ([]:List G2) .none))],[],[]⟩:St) from Le.trans (Bs (st':=⟨w9,[],[]⟩) [2] [] q) (Ng (.cons AVle.untag .nil) .nil))))))) λh=>tB h λx2 y2 h=>tT q [2] [] [(ik x2)] (c1 (CD y2)) (tS h (Bj []))))
abbrev nT:=(LR (Int×Ad×Int×List Ab×Int×Ad×List Bd) (Ad×Int×List Ab×Int×Ad×List Bd))
def Dc(a3:Aa)(a1:List L4)(i1:Int)(i21:Int):P9->Option nT:=
 λ((i35,l36,i37,l38,i39,l40,l41):P9)=>(bif (decide (i35<(((((a3.Blocks.getD i1.toNat default).Phis).getD i21.toNat default).Args).length:Int))) then(Az (Ay i35 ((((a3.Blocks.getD i1.toNat default).Phis).getD i21.toNat default).Args).length) ((Di ((((a3.Blocks.getD i1.toNat default).Phis).getD i21.toNat default).Bits)).bind λx49=>(Az (Ay i35 ((((a3.Blocks.getD i1.toNat default).Phis).getD i21.toNat default).From).length) ((E4 (((((a3.Blocks.getD i1.toNat default).Phis).getD i21.toNat default).From).getD i35.toNat 0) (⟨l36,i37,l38⟩:Aa) i39 l40 a1 l41).bind λx51=>((Dz (((((a3.Blocks.getD i1.toNat default).Phis).getD i21.toNat default).Args).getD i35.toNat 0) x49 x51.1 x51.2.1 x51.2.2.1 x51.2.2.2.1 a1 x51.2.2.2.2).bind λx52=>(some (.next ((A3 (i35+1)),x52.1.Params,x52.1.Ret,x52.1.Blocks,x52.2.1,x52.2.2.1,x52.2.2.2)))))))) else(some (.done (l36,i37,l38,i39,l40,l41))))
def Dd(a3:Aa)(a1:List L4)(i1:Int):P9->Option nT:=
 λ((i21,l22,i23,l24,i25,l26,l27):P9)=>(bif (decide (i21<(((a3.Blocks.getD i1.toNat default).Phis).length:Int))) then(Az (Ay i21 ((a3.Blocks.getD i1.toNat default).Phis).length) ((Af (Dc a3 a1 i1 i21) ((0:Int),l22,i23,l24,i25,l26,l27)).bind (λ(l42,i43,l44,i45,l46,l47)=>(some (.next ((A3 (i21+1)),l42,i43,l44,i45,l46,l47)))))) else(some (.done (l22,i23,l24,i25,l26,l27))))
def De(a3:Aa)(a1:List L4)(i1:Int)(i57:Int)(x71:List ck):P9->Option nT:=
 λ((i72,l73,i74,l75,i76,l77,l78):P9)=>(bif (decide (i72<(x71.length:Int))) then(Az (Ay i72 x71.length) (Az (Ay i72 ((((a3.Blocks.getD i1.toNat default).Ops).getD i57.toNat default).Args).length) ((Dz (((((a3.Blocks.getD i1.toNat default).Ops).getD i57.toNat default).Args).getD i72.toNat 0) (x71.getD i72.toNat ((0:Int),(0:Int))) (⟨i1,i57⟩:Ix) (⟨l73,i74,l75⟩:Aa) i76 l77 a1 l78).bind λx87=>(some (.next ((A3 (i72+1)),x87.1.Params,x87.1.Ret,x87.1.Blocks,x87.2.1,x87.2.2.1,x87.2.2.2)))))) else(some (.done (l73,i74,l75,i76,l77,l78))))
def Df(a3:Aa)(a1:List L4)(i1:Int):P9->Option nT:=
 λ((i57,l58,i59,l60,i61,l62,l63):P9)=>(bif (decide (i57<(((a3.Blocks.getD i1.toNat default).Ops).length:Int))) then(Az (Ay i57 ((a3.Blocks.getD i1.toNat default).Ops).length) ((Nr (((a3.Blocks.getD i1.toNat default).Ops).getD i57.toNat default)).bind λx71=>((Af (De a3 a1 i1 i57 x71) ((0:Int),l58,i59,l60,i61,l62,l63)).bind (λ(l79,i80,l81,i82,l83,l84)=>(some (.next ((A3 (i57+1)),l79,i80,l81,i82,l83,l84))))))) else(some (.done (l58,i59,l60,i61,l62,l63))))
def Dg(a3:Aa)(a1:List L4):P9->Option nT:=
 λ((i1,l2,i3,l4,i5,l6,l7):P9)=>(bif (decide (i1<(a3.Blocks.length:Int))) then(Option.bind (α:=(Ad×Int×List Ab×Int×Ad×List Bd)) (Az (Ay i1 a3.Blocks.length) ((Af (Dd a3 a1 i1) ((0:Int),l2,i3,l4,i5,l6,l7)).bind (λx55=>(match x55 with|(l28,i29,l30,i31,l32,l33)=>((Af (Df a3 a1 i1) ((0:Int),l28,i29,l30,i31,l32,l33)).bind (λx90=>(match x90 with|(l64,i65,l66,i67,l68,l69)=>(bif (((a3.Blocks.getD i1.toNat default).End.Kind:Int)==0) then((Di i65).bind λx92=>((E4 i1 (⟨l64,i65,l66⟩:Aa) i67 l68 a1 l69).bind λx93=>((Dz ((a3.Blocks.getD i1.toNat default).End.Arg) x92 x93.1 x93.2.1 x93.2.2.1 x93.2.2.2.1 a1 x93.2.2.2.2).bind λx94=>(some (x94.1.Params,x94.1.Ret,x94.1.Blocks,x94.2.1,x94.2.2.1,x94.2.2.2))))) else(bif (((a3.Blocks.getD i1.toNat default).End.Kind:Int)==2) then((Di (1:Int)).bind λx95=>((E4 i1 (⟨l64,i65,l66⟩:Aa) i67 l68 a1 l69).bind λx96=>((Dz ((a3.Blocks.getD i1.toNat default).End.Arg) x95 x96.1 x96.2.1 x96.2.2.1 x96.2.2.2.1 a1 x96.2.2.2.2).bind λx97=>(some (x97.1.Params,x97.1.Ret,x97.1.Blocks,x97.2.1,x97.2.2.1,x97.2.2.2))))) else(some (l64,i65,l66,i67,l68,l69))))))))))) (λx98=>(match x98 with|(l14,i15,l16,i17,l18,l19)=>(some (.next ((A3 (i1+1)),l14,i15,l16,i17,l18,l19)))))) else(some (.done (l2,i3,l4,i5,l6,l7))))
def y0(a3:Aa)(i1:Int):=(a3.Blocks.getD i1.toNat default)
def rg(a1:List L4):=(C7 (λ(v_:Aw)=>((Ve v_):AV)) a1)
def F4(a3:Aa)(a7:Int)(a0:Ad)(a1:List L4)(a4:List Bd):Option rO:=
 ((Af (Dg a3 a1) ((0:Int),a3.Params,a3.Ret,a3.Blocks,a7,a0,a4)).bind (λ(l8,i9,l10,i11,l12,l13)=>(some ((⟨l8,i9,l10⟩:Aa),i11,l12,l13))))
theorem Tk(h:F4 v0 v1 v2 v25 v12=some v29):sP 151 CZ [(Z2 v0.Params v0.Ret v0.Blocks v1 v2 9100005 v12),(Gy 37006 198 v12.length),(9100005,.obj (.map false .i64 (C7 (λ(v_:Aw)=>((Ve v_):AV)) v25)))] (.tuple []) [(Z2 v29.1.Params v29.1.Ret v29.1.Blocks v29.2.1 v29.2.2.1 9100005 v29.2.2.2),(Gy 37006 198 v29.2.2.2.length),(9100005,.obj (.map false .i64 (C7 (λ(v_:Aw)=>((Ve v_):AV)) v25)))]:=
 sG Tryz.func151 λΓ q=>Ag q JA Gh (tL q h JA Gh (λu (i1,l2,i3,l4,i5,l6,l7)=>(Dv u [(Db 18 i1)] (WN l2 i3 l4 i5 l6 l7 l7.length))) (λu (l8,i9,l10,i11,l12,l13)=>aG Γ (.exit 0) (V4 [] Gh u [] (WN l8 i9 l10 i11 l12 l13 l13.length))) (λ⟨i1,l2,i3,l4,i5,l6,l7⟩ y h=>Ag q [0,16,17,18,19] Gh (gC h (λh=>tB h λx98 y98 h=>gJ y98 (λ(l14,i15,l16,i17,l18,l19)=>aG Γ .normal (⟨[fl,(16,(GW v0.Blocks)),(17,(Od v0.Blocks.length)),(Db 18 i1)],(ve l14 i15 l16 i17 l18 l19 l19.length (rg v25)),[]⟩:St)) (λy h=>tV q cx Jn h λh=>Ag q cr Jn (tL q h cr Jn (λu (i21,l22,i23,l24,i25,l26,l27)=>(Dv u [(Db 26 i21)] (WN l22 i23 l24 i25 l26 l27 l27.length))) (λu (l28,i29,l30,i31,l32,l33)=>aG Γ (.exit 2) (V4 cx Jn u [] (WN l28 i29 l30 i31 l32 l33 l33.length))) (λ⟨i21,l22,i23,l24,i25,l26,l27⟩ y h=>Ag q [0,2,3,16,17,18,24,25,26,27] Jn (gC h (λh=>tV q [0,2,3,5,16,17,18,24,25,26] GS h λh=>Ag q iE GS (tL q h iE GS (λu (i35,l36,i37,l38,i39,l40,l41)=>(Dv u [(Db 33 i35)] (WN l36 i37 l38 i39 l40 l41 l41.length))) (λu (l42,i43,l44,i45,l46,l47)=>aG Γ (.exit 4) (V4 cr Jn u [] (WN l42 i43 l44 i45 l46 l47 l47.length))) (λ⟨i35,l36,i37,l38,i39,l40,l41⟩ y h=>Ag q [0,2,3,5,16,17,18,24,25,26,31,32,33,34] GS (gC h (λh=>tV q [0,2,3,5,6,7,16,17,18,24,25,26,31,32,33] GS h λh=>tB h λx49 y49 h=>tC h λc50_ h=>tB h λx51 y51 h=>tB h λx52 y52 h=>tT q iE GS [(kj x49),(xw x51.1 x51.2.1.Params x51.2.1.Ret x51.2.1.Blocks x51.2.2.1 x51.2.2.2.1 x51.2.2.2.2 x51.2.2.2.2.length (rg v25)),(vh x52.1.Params x52.1.Ret x52.1.Blocks x52.2.1 x52.2.2.1 x52.2.2.2 x52.2.2.2.length (rg v25))] (c4 (Ji y49) c50_ (Kq y51) (H0 y52)) (Ag q iE GS (tN h))) λh=>tS h (gO (B0 (Bs cr Jn q))))) λx53 h=>(match x53,h with|⟨l42,i43,l44,i45,l46,l47⟩,h=>gA (Ag q cr Jn (tN h))))) λh=>tS h (gO (B0 (Bs cx Jn q))))) λx55 h=>(match x55,h with|⟨l28,i29,l30,i31,l32,l33⟩,h=>gA (Ag q cu Jn (tL q h cu Jn (λu (i57,l58,i59,l60,i61,l62,l63)=>(Dv u [(Db 56 i57)] (WN l58 i59 l60 i61 l62 l63 l63.length))) (λu (l64,i65,l66,i67,l68,l69)=>aG Γ (.exit 6) (V4 cx Jn u [] (WN l64 i65 l66 i67 l68 l69 l69.length))) (λ⟨i57,l58,i59,l60,i61,l62,l63⟩ y h=>Ag q [0,2,3,16,17,18,54,55,56,57] Jn (gC h (λh=>tV q [0,2,3,8,9,16,17,18,54,55,56] VU h λh=>tB h λx71 y71 h=>tT q iD VU [(ik x71)] (c1 (SY y71)) (tL q h iD VU (λu (i72,l73,i74,l75,i76,l77,l78)=>(Dv u [(Db 64 i72)] (WN l73 i74 l75 i76 l77 l78 l78.length))) (λu (l79,i80,l81,i82,l83,l84)=>aG Γ (.exit 8) (V4 cu Jn u [] (WN l79 i80 l81 i82 l83 l84 l84.length))) (λ⟨i72,l73,i74,l75,i76,l77,l78⟩ y h=>Ag q [0,2,3,8,9,16,17,18,54,55,56,62,63,64,65] VU (gC h (λh=>tV q [0,2,3,8,9,10,11,16,17,18,54,55,56,62,63,64] [3,9,11,30000,37006,9100005] h λh=>tC h λc86_ h=>tB h λx87 y87 h=>tT q iD VU [(vh x87.1.Params x87.1.Ret x87.1.Blocks x87.2.1 x87.2.2.1 x87.2.2.2 x87.2.2.2.length (rg v25))] (c2 c86_ (H0 y87)) (Ag q iD VU (tN h))) λh=>tS h (gO (B0 (Bs cu Jn q))))) λx88 h=>(match x88,h with|⟨l79,i80,l81,i82,l83,l84⟩,h=>gA (Ag q cu Jn (tN h))))) λh=>tS h (gO (B0 (Bs cx Jn q))))) λx90 h=>(match x90,h with|⟨l64,i65,l66,i67,l68,l69⟩,h=>gA (tW q [0,2,3,16,17,18,84] Jn [0,2,3,16,17,18,84,85] Jn (gC h (λh=>tB h λx92 y92 h=>tB h λx93 y93 h=>tB h λx94 y94 h=>tT q JA Gh [(kj x92),(xw x93.1 x93.2.1.Params x93.2.1.Ret x93.2.1.Blocks x93.2.2.1 x93.2.2.2.1 x93.2.2.2.2 x93.2.2.2.2.length (rg v25)),(vh x94.1.Params x94.1.Ret x94.1.Blocks x94.2.1 x94.2.2.1 x94.2.2.2 x94.2.2.2.length (rg v25))] (c3 (Ji y92) (Kq y93) (H0 y94)) (tS h (gK (B0 Kb)))) λh=>Ag q [0,2,3,16,17,18,101] Jn (gC h (λh=>tB h λx95 y95 h=>tB h λx96 y96 h=>tB h λx97 y97 h=>tT q JA Gh [(kj x95),(xw x96.1 x96.2.1.Params x96.2.1.Ret x96.2.1.Blocks x96.2.2.1 x96.2.2.2.1 x96.2.2.2.2 x96.2.2.2.2.length (rg v25)),(vh x97.1.Params x97.1.Ret x97.1.Blocks x97.2.1 x97.2.2.1 x97.2.2.2 x97.2.2.2.length (rg v25))] (c3 (Ji y95) (Kq y96) (H0 y97)) (tS h (gK (B0 Kb)))) λh=>tS h (gK (B0 (Bs JA Gh q)))))))))))) (match x98,h with|⟨l14,i15,l16,i17,l18,l19⟩,h=>gA (Ag q JA Gh (tN h)))) λh=>tS h (gO (B0 (Bs [] Gh q))))) λx100 h=>(match x100,h with|⟨l8,i9,l10,i11,l12,l13⟩,h=>bL (λst' hl101=>tS h (gK (e:=.normal) (Hd Qi hl101)))))
def Ih(aa2:Bd)(a3:Aa)(a7:Int)(a0:Ad)(a1:List L4)(a4:List Bd):Option Zt:=
 (some ((Eg a1 aa2.v),a3,a7,a0,a4))
variable{v30:Bd}
theorem Tn(h:Ih v30 v0 v1 v2 v25 v12=some v23):sP 152 [(F3 30000),(.agg (Lg v30))] [(Z2 v0.Params v0.Ret v0.Blocks v1 v2 9100005 v12),(Gy 37006 198 v12.length),(9100005,.obj (.map false .i64 (C7 (λ(v_:Aw)=>((Ve v_):AV)) v25)))] (.bool v23.1) [(Z2 v23.2.1.Params v23.2.1.Ret v23.2.1.Blocks v23.2.2.1 v23.2.2.2.1 9100005 v23.2.2.2.2),(Gy 37006 198 v23.2.2.2.2.length),(9100005,.obj (.map false .i64 (C7 (λ(v_:Aw)=>((Ve v_):AV)) v25)))]:=
 sG Tryz.func152 λΓ q=>Ag q Ln Jn (gR q [6] Gh [(14,(.tuple [(rj v25 v30.v),(.bool (Eg v25 v30.v))]))] [] (c1 (show(AVle (.tuple [Fu (.agg [In,In,In,In]) (C7 (λ(v_:Aw)=>((Ve v_):AV)) v25) v30.v,.bool (Eg (C7 (λ(v_:Aw)=>((Ve v_):AV)) v25) v30.v)]) (.tuple [(rj v25 v30.v),(.bool (Eg v25 v30.v))])) from(bh (f:=(λ(v_:Aw)=>((Ve v_):AV))) (l:=v25) (AVle.refl _) rfl))) (Ag q [4] Gh (tS h (Bj Qi))))
def Ke(aa2:Bd)(a3:Aa)(a7:Int)(a0:Ad)(a1:List L4)(a4:List Bd):Option Zt:=
 (some (((((Fu (default:Aw) a1 aa2.v).shape.1:Int)==aa2.shape.1)&&((((Fu (default:Aw) a1 aa2.v).shape.2:Int)==aa2.shape.2)&&true)),a3,a7,a0,a4))
theorem Xs(h:Ke v30 v0 v1 v2 v25 v12=some v23):sP 153 [(F3 30000),(.agg (Lg v30))] [(Z2 v0.Params v0.Ret v0.Blocks v1 v2 9100005 v12),(Gy 37006 198 v12.length),(9100005,.obj (.map false .i64 (C7 (λ(v_:Aw)=>((Ve v_):AV)) v25)))] (.bool v23.1) [(Z2 v23.2.1.Params v23.2.1.Ret v23.2.1.Blocks v23.2.2.1 v23.2.2.2.1 9100005 v23.2.2.2.2),(Gy 37006 198 v23.2.2.2.2.length),(9100005,.obj (.map false .i64 (C7 (λ(v_:Aw)=>((Ve v_):AV)) v25)))]:=
 sG Tryz.func153 λΓ q=>Ag q Ln Jn (gR q [4] Gh [(11,(rj v25 v30.v))] [] (c1 (show(AVle (Fu (.agg [In,In,In,In]) (C7 (λ(v_:Aw)=>((Ve v_):AV)) v25) v30.v) (rj v25 v30.v)) from(XH (f:=(λ(v_:Aw)=>((Ve v_):AV))) (l:=v25) (AVle.refl _) rfl))) (tS h (Bj Qi)))
def B7(aP:Ad)(aJ:Int):Int->Option (LR Int (Unit ⊕ Int)):=
 λ(i1:Int)=>(bif (decide (i1<(aP.length:Int))) then(Az (Ay i1 aP.length) (bif (aJ==(aP.getD i1.toNat 0)) then(some (.done (.inr i1))) else(some (.next (A3 (i1+1)))))) else(some (.done (.inl ()))))
def Vb(Γ:G8)(aP:Ad)(aJ:Int)(r:Int):Exit->St->Prop:=fK Tryz.prog Γ Tryz.f163.results.toList [] (.int .i64 r) []
def Cw(aP:Ad)(aJ:Int):Option Int:=
 ((Af (B7 aP aJ) (0:Int)).bind (λx3=>(match x3 with|(.inl _)=>(some (-1:Int))|(.inr r5)=>(some r5))))
theorem Ij(h:Cw v2 v1=some v11):sP 163 [(Lo v2),(Aq v1)] [] (.int .i64 v11) []:=
 sG Tryz.func163 λΓ q=>tW q Cy [] GU [] (tL q h GU [] (λu i1=>(Dv u [(8,(Aq i1))] [])) (λu x_=>match x_ with|(.inl _)=>aG Γ (.exit 0) (⟨[],[],[]⟩:St)|(.inr r_)=>aR (Vb Γ v2 v1 r_)) (λi1 y h=>Ag q fS [] (gC h (λh=>Ag q fT [] (tV q fF [] h λh=>gC h (λh=>Ag q [4] [] (tS h (gO (Oa (Hd [] (Le.refl _ _)))))) λh=>Ag q GU [] (tN h))) λh=>tS h (gO (B0 (Bs [] [] q))))) λx3 h=>(match x3,h with | .inl _,h=>gA (Ag q [4] [] (tS h (Bj []))) | .inr r5,h=>gAr (λst' hk=>tS h (gK hk))))
def Jo(aL:Ad)(aK:Int):Option Bool:=
 (some (bif (decide ((0:Int)<=aK)) then(decide (aK<(aL.length:Int))) else false))
theorem Y4(h:Jo v2 v1=some v3):sP 257 [(Lo v2),(Aq v1)] [] (.bool v3) []:=
 sG Tryz.func257 λΓ q=>Ag q Cy [] (tU q [4] [] (dj ((decide ((0:Int)<=v1))==true) (c1 (O9 (decide ((0:Int)<=v1))))) (tS h (Bj [])))
def C1(aL:Ad)(aa1:Int)(aaD:Int):BR->Option (LR (Int×Ad) (Ad ⊕ (Bool×Ad))):=
 λ((i1,l2):BR)=>(bif (i1 !=aaD) then(Az (Ay i1 l2.length) (bif ((l2.getD i1.toNat 0)!=0) then(Az (Ay i1 l2.length) (some (.done (.inr (((l2.getD i1.toNat 0)!=(A3 (aa1+1))),l2))))) else(Az (Ay i1 aL.length) ((Jo aL (aL.getD i1.toNat 0)).bind λx7=>(bif (!x7) then(some (.done (.inr (false,l2)))) else(Az (Ay i1 l2.length) (Az (Ay i1 aL.length) (some (.next ((aL.getD i1.toNat 0),(l2.set i1.toNat (A3 (aa1+1))))))))))))) else(some (.done (.inl l2))))
def ZJ(Γ:G8)(aL:Ad)(aaX:Ad)(aa1:Int)(aaD:Int)(r:nS):Exit->St->Prop:=fK Tryz.prog Γ Tryz.f256.results.toList [(Tb 34001 aaX)] (.bool r.1) [(Tb 34001 r.2)]
def Ss(aL:Ad)(aaX:Ad)(aa1:Int)(aaD:Int):Option nS:=
 ((Af (C1 aL aa1 aaD) (aa1,aaX)).bind (λx10=>(match x10 with|(.inl l3)=>(some (true,l3))|(.inr r12)=>(some r12))))
variable{v31:nS}
theorem XM(h:Ss v2 v17 v1 v11=some v31):sP 256 [(Lo v2),(.vsl 34001 v17.length),(Aq v1),(Aq v11)] [(Tb 34001 v17)] (.bool v31.1) [(Tb 34001 v31.2)]:=
 sG Tryz.func256 λΓ q=>tW q JC [34001] [0,1,2,3,9] [34001] (Ag q CS [34001] (tL q h CS [34001] (λu (i1,l2)=>(Dv u [(1,(.vsl 34001 l2.length)),(Db 10 i1)] [(Tb 34001 l2)])) (λu x_=>match x_ with|(.inl l3)=>aG Γ (.exit 0) (⟨[],[(Tb 34001 l3)],[]⟩:St)|(.inr r_)=>aR (ZJ Γ v2 v17 v1 v11 r_)) (λ⟨i1,l2⟩ y h=>Ag q [0,1,3,9,10,16] [34001] (gC h (λh=>tC h λc4_ h=>tU q [0,1,3,9,10,25] [34001] (c2 c4_ (Eq.refl l2.length)) (gC h (λh=>tC h λc5_ h=>tU q [8] [34001] (c2 c5_ (Eq.refl l2.length)) (tS h (gO (Oa (Hd fN (Le.refl _ _)))))) λh=>tC h λc6_ h=>tB h λx7 y7 h=>tT q [0,1,3,9,10,38] [34001] [(Z9 x7)] (c2 c6_ (Y4 y7)) (gC h (λh=>Ag q [8] [34001] (tS h (gO (Oa (Hd fN (Le.refl _ _)))))) λh=>tC h λc8_ h=>tU q CS [34001] (c2 c8_ (Eq.refl l2.length)) (Ka (Le.trans (Pa 34001 (show ∀ k_,k_<l2.length->AVleL ((λi_=>AV.eraseAll (λn_=>Bp n_ [34001]) ((Il (λi=>Ao (l2.getD i 0)) i1.toNat 0 [(.int .i64 (A3 (v1+1)))]) i_)) k_) ((λi=>Ao ((l2.set i1.toNat (A3 (v1+1))).getD i 0)) k_) from(A8 (Cp ..).symm (λk_ hk_=>(Bn (AV.eraseAll (λn_=>Bp n_ [34001])) ((E1 (λ_ _=>rfl) (Fn c8_) rfl) k_ hk_)).trans rfl)))) (Pb (λ(k_:Nat) u=>(Dv u [(1,(.vsl 34001 k_))] [(34001,.arr 1 3 k_ (λi=>Ao ((l2.set i1.toNat (A3 (v1+1))).getD i 0)))])) (show l2.length=(l2.set i1.toNat (A3 (v1+1))).length from(Cp ..).symm))) (tV q CS [34001] h λh=>tN h))))) λh=>tS h (gO (B0 (Bs [] [34001] q))))) λx10 h=>(match x10,h with | .inl l3,h=>gA (Ag q [8] [34001] (tS h (Bj fN))) | .inr r12,h=>gAr (λst' hk=>tS h (gK hk)))))
def E6(aL:Ad)(x1:Int):BR->Option (LR (Int×Ad) (Unit ⊕ Bool)):=
 λ((i3,l4):BR)=>(bif (decide (i3<(aL.length:Int))) then(Az (Ay i3 aL.length) ((bif (((aL.getD i3.toNat 0)!=-2)==true) then Ss aL l4 i3 x1 else some (false,[])).bind λx6=>(Az ((((aL.getD i3.toNat 0)!=-2)==true)=true->(l4.length=x6.2.length)) (bif (bif ((aL.getD i3.toNat 0)!=-2) then(!x6.1) else false) then(some (.done (.inr false))) else(some (.next ((A3 (i3+1)),(bif (((aL.getD i3.toNat 0)!=-2)==true) then x6.2 else l4)))))))) else(some (.done (.inl ()))))
def WC(Γ:G8)(aL:Ad)(r:Bool):Exit->St->Prop:=fK Tryz.prog Γ Tryz.f247.results.toList [] (.bool r) []
def oH(aL:Ad)(i3:Int):=(((aL.getD i3.toNat 0)!=-2)==true)
def Qn(aL:Ad):Option Bool:=
 ((Cw aL (-1:Int)).bind λx1=>(bif (decide (x1<0)) then(some false) else(Az (0<=(aL.length:Int)/\(aL.length:Int)<=(aL.length:Int)/\(aL.length:Int)<=(room:Int)) ((Af (E6 aL x1) ((0:Int),(List.replicate (aL.length:Int).toNat (0:Int)))).bind (λx8=>(match x8 with|(.inl _)=>(some true)|(.inr r10)=>(some r10)))))))
theorem SS(h:Qn v2=some v3):sP 247 [(Lo v2)] [] (.bool v3) []:=
 sG Tryz.func247 λΓ q=>Ag q [0] [] (tB h λx1 y1 h=>tT q Ln [] [(MJ x1)] (c1 (Ij y1)) (Ag q [0,3,9] [] (gC h (λh=>Ag q [2] [] (tS h (Bj []))) λh=>tV q F1 [12] h λh=>by exact Ka (Le.trans (Pa 12 (show ∀ k_,k_<((v2.length:Int).toNat)->AVleL ((λi_=>AV.eraseAll (λn_=>Bp n_ [12]) ((λ_=>[In]) i_)) k_) ((λi=>Ao ((List.replicate (v2.length:Int).toNat (0:Int)).getD i 0)) k_) from(λk hk=>K8 (e:=Ao) (d:=(0:Int)) (.cons (AVle.refl _) .nil) _ k (Lb hk)))) (Pb (λ(k_:Nat) u=>(Dv u [(4,(.vsl 12 k_))] [(12,.arr 1 3 k_ (λi=>Ao ((List.replicate (v2.length:Int).toNat (0:Int)).getD i 0)))])) (show(v2.length:Int).toNat=(List.replicate (v2.length:Int).toNat (0:Int)).length from(Pu ..).symm))) (Ag q fL [12] (tL q h fL [12] (λu (i3,l4)=>(Dv u [(4,(.vsl 12 l4.length)),(Db 15 i3)] [(Tb 12 l4)])) (λu x_=>match x_ with|(.inl _)=>aG Γ (.exit 0) (⟨[],[],[]⟩:St)|(.inr r_)=>aR (WC Γ v2 r_)) (λ⟨i3,l4⟩ y h=>Ag q [0,3,4,14,15,16] [12] (gC h (λh=>Ag q [0,3,4,5,14,15] [12] (tC h λc5_ h=>tB h λx6 y6 h=>tC h λc7_ h=>tT q [0,3,4,14,15,30] [12] [⟨[(12,34001)],[],(.bool x6.1),[(Tb 34001 x6.2)],[],[]⟩] (ci c5_ (tk (oH v2 i3) (c3 (λ(hg:(oH v2 i3)=true)=>(XM (B4 hg y6))) (gI (oH v2 i3)) (O9 ((v2.getD i3.toNat 0)!=-2))))) (Ka (Le.trans (Pa 12 (show ∀ k_,k_<(bif (oH v2 i3) then x6.2.length else l4.length)->AVleL ((λi_=>AV.eraseAll (λn_=>Bp n_ [12]) ((λi=>bif (oH v2 i3) then(λi=>Ao (x6.2.getD i 0)) i else(λi=>Ao (l4.getD i 0)) i) i_)) k_) ((λi=>Ao ((bif (oH v2 i3) then x6.2 else l4).getD i 0)) k_) from(A8 fu (λk_ hk_=>(Bn (AV.eraseAll (λn_=>Bp n_ [12])) ((λ_ _=>pg) k_ hk_)).trans rfl)))) (Le.trans (Pb (λ(k_:Nat) u=>(Dv u [] [(12,.arr 1 3 k_ (λi=>Ao ((bif (oH v2 i3) then x6.2 else l4).getD i 0)))])) (show(bif (oH v2 i3) then x6.2.length else l4.length)=(bif (oH v2 i3) then x6.2 else l4).length from fu)) (Pb (λ(k_:Nat) u=>(Dv u [(4,(.vsl 12 k_))] [])) (show l4.length=(bif (oH v2 i3) then x6.2 else l4).length from(pi c7_))))) (gC h (λh=>Ag q [2] [] (tS h (gO (Oa (Hd [] (Le.refl _ _)))))) λh=>Ag q fL [12] (tN h))))) λh=>tS h (gO (B0 (Bs [] [] q))))) λx8 h=>(match x8,h with | .inl _,h=>gA (Ag q [2] [] (tS h (Bj []))) | .inr r10,h=>gAr (λst' hk=>tS h (gK hk))))))))
def Kg(aL:Ad)(aK:Int):Option Bool:=
 ((Jo aL aK).bind λx1=>(Az ((x1==true)=true->(Ay aK aL.length)) (some (bif x1 then((aL.getD aK.toNat 0)!=-2) else false))))
theorem Wp(h:Kg v2 v1=some v3):sP 248 [(Lo v2),(Aq v1)] [] (.bool v3) []:=
 sG Tryz.func248 λΓ q=>Ag q Cy [] (tB h λx1 y1 h=>tC h λc2_ h=>tT q [4] [] [(Z9 x1)] (ci (Y4 y1) (Qy (x1==true) (ci c2_ (Qy (x1==true) (c1 (O9 x1)))))) (tS h (Bj [])))
def Sr(aL:Ad)(aH:Int)(aD:Int):Option Bool:=
 ((Qn aL).bind λx1=>((bif (x1==true) then Kg aL aH else some false).bind λx2=>((bif ((bif x1 then x2 else false)==true) then Kg aL aD else some false).bind λx3=>(some (bif (bif x1 then x2 else false) then x3 else false)))))
theorem XL(h:Sr v2 v1 v11=some v3):sP 211 [(Lo v2),(Aq v1),(Aq v11)] [] (.bool v3) []:=
 sG Tryz.func211 λΓ q=>Ag q AF [] (tB h λx1 y1 h=>tB h λx2 y2 h=>tB h λx3 y3 h=>tT q [6] [] [(Z9 x1),(Z9 x2),(Z9 x3)] (ci (SS y1) (Qy (x1==true) (NT (λ(hg:(x1==true)=true)=>(Wp (B4 hg y2))) (O9 x1) (Qy ((bif x1 then x2 else false)==true) (c2 (λ(hg:((bif x1 then x2 else false)==true)=true)=>(Wp (B4 hg y3))) (O9 (bif x1 then x2 else false))))))) (tS h (Bj [])))
def Vr(aL:Ad)(aH:Int)(aD:Int):Option Bool:=
 ((Sr aL aH aD).bind λx1=>((bif (x1==true) then Ov aL aH aD else some (0:Int)).bind λx2=>(some (bif x1 then(x2==aH) else false))))
theorem bu(h:Vr v2 v1 v11=some v3):sP 188 [(Lo v2),(Aq v1),(Aq v11)] [] (.bool v3) []:=
 sG Tryz.func188 λΓ q=>Ag q AF [] (tB h λx1 y1 h=>tB h λx2 y2 h=>tT q [6] [] [(Z9 x1),(MJ x2)] (ci (XL y1) (dj (x1==true) (ci (λ(hg:(x1==true)=true)=>(KC (B4 hg y2))) (Qy (x1==true) (c1 (O9 x1)))))) (tS h (Bj [])))
def F6(aa2:Bd)(a3:Aa)(a7:Int)(a0:Ad)(a1:List L4)(a4:List Bd):Option Zt:=
 (bif (((Fu (default:Aw) a1 aa2.v).place.block:Int)==aa2.place.block) then(some ((decide (((Fu (default:Aw) a1 aa2.v).place.at_:Int)<aa2.place.at_)),a3,a7,a0,a4)) else((Vr a0 ((Fu (default:Aw) a1 aa2.v).place.block) aa2.place.block).bind λx1=>(some (x1,a3,a7,a0,a4))))
theorem Tm(h:F6 v30 v0 v1 v2 v25 v12=some v23):sP 154 [(F3 30000),(.agg (Lg v30))] [(Z2 v0.Params v0.Ret v0.Blocks v1 v2 9100005 v12),(Gy 37006 198 v12.length),(9100005,.obj (.map false .i64 (C7 (λ(v_:Aw)=>((Ve v_):AV)) v25)))] (.bool v23.1) [(Z2 v23.2.1.Params v23.2.1.Ret v23.2.1.Blocks v23.2.2.1 v23.2.2.2.1 9100005 v23.2.2.2.2),(Gy 37006 198 v23.2.2.2.2.length),(9100005,.obj (.map false .i64 (C7 (λ(v_:Aw)=>((Ve v_):AV)) v25)))]:=
 sG Tryz.func154 λΓ q=>Ag q Ln Jn (gR q [0,3,5] GS [(12,(rj v25 v30.v))] [] (c1 (show(AVle (Fu (.agg [In,In,In,In]) (C7 (λ(v_:Aw)=>((Ve v_):AV)) v25) v30.v) (rj v25 v30.v)) from(XH (f:=(λ(v_:Aw)=>((Ve v_):AV))) (l:=v25) (AVle.refl _) rfl))) (Ag q [0,3,5,19] GS (gC h (λh=>Ag q [4] Gh (tS h (Bj Qi))) λh=>tB h λx1 y1 h=>tT q [4] Gh [(Z9 x1)] (c1 (bu y1)) (tS h (Bj Qi)))))
abbrev uS:=(LR (Int×Ad×Int×List Ab×Int×Ad×List Bd) ((Ad×Int×List Ab×Int×Ad×List Bd) ⊕ (Ad×Int×List Ab×Int×Ad×List Bd)))
def Eh(a1:List L4)(x8:rO):P9->Option uS:=
 λ((i9,l10,i11,l12,i13,l14,l15):P9)=>(bif (decide (i9<(x8.2.2.2.length:Int))) then(Az (Ay i9 x8.2.2.2.length) ((Ih (x8.2.2.2.getD i9.toNat default) (⟨l10,i11,l12⟩:Aa) i13 l14 a1 l15).bind λx29=>(bif (!x29.1) then(some (.done (.inr (x29.2.1.Params,x29.2.1.Ret,x29.2.1.Blocks,x29.2.2.1,x29.2.2.2.1,x29.2.2.2.2)))) else(some (.next ((A3 (i9+1)),x29.2.1.Params,x29.2.1.Ret,x29.2.1.Blocks,x29.2.2.1,x29.2.2.2.1,x29.2.2.2.2)))))) else(some (.done (.inl (l10,i11,l12,i13,l14,l15)))))
def Ei(a1:List L4)(l21:List Bd):P9->Option uS:=
 λ((i32,l33,i34,l35,i36,l37,l38):P9)=>(bif (decide (i32<(l21.length:Int))) then(Az (Ay i32 l21.length) ((Ke (l21.getD i32.toNat default) (⟨l33,i34,l35⟩:Aa) i36 l37 a1 l38).bind λx52=>(bif (!x52.1) then(some (.done (.inr (x52.2.1.Params,x52.2.1.Ret,x52.2.1.Blocks,x52.2.2.1,x52.2.2.2.1,x52.2.2.2.2)))) else(some (.next ((A3 (i32+1)),x52.2.1.Params,x52.2.1.Ret,x52.2.1.Blocks,x52.2.2.1,x52.2.2.2.1,x52.2.2.2.2)))))) else(some (.done (.inl (l33,i34,l35,i36,l37,l38)))))
def Ej(a1:List L4)(l44:List Bd):P9->Option uS:=
 λ((i55,l56,i57,l58,i59,l60,l61):P9)=>(bif (decide (i55<(l44.length:Int))) then(Az (Ay i55 l44.length) ((F6 (l44.getD i55.toNat default) (⟨l56,i57,l58⟩:Aa) i59 l60 a1 l61).bind λx75=>(bif (!x75.1) then(some (.done (.inr (x75.2.1.Params,x75.2.1.Ret,x75.2.1.Blocks,x75.2.2.1,x75.2.2.2.1,x75.2.2.2.2)))) else(some (.next ((A3 (i55+1)),x75.2.1.Params,x75.2.1.Ret,x75.2.1.Blocks,x75.2.2.1,x75.2.2.2.1,x75.2.2.2.2)))))) else(some (.done (.inl (l56,i57,l58,i59,l60,l61)))))
def Mv :P9->Option (LR (Int×Ad×Int×List Ab×Int×Ad×List Bd) (Int×Aa×Int×Ad×List Bd)):=
 λ(s_:P9)=>match s_ with|(i1,l2,i3,l4,i5,l6,l7)=>(some (.done (i1,(⟨l2,i3,l4⟩:Aa),i5,l6,l7)))
def X2(Γ:G8)(a3:Aa)(a7:Int)(a0:Ad)(a1:List L4)(a4:List Bd)(r:jx):Exit->St->Prop:=fK Tryz.prog Γ Tryz.f91.results.toList [(Z2 a3.Params a3.Ret a3.Blocks a7 a0 9100005 a4),(Gy 37006 198 a4.length),(9100005,.obj (.map false .i64 (C7 (λ(v_:Aw)=>((Ve v_):AV)) a1)))] (Aq r.1) [(Z2 r.2.1.Params r.2.1.Ret r.2.1.Blocks r.2.2.1 r.2.2.2.1 9100005 r.2.2.2.2),(Gy 37006 198 r.2.2.2.2.length),(9100005,.obj (.map false .i64 (C7 (λ(v_:Aw)=>((Ve v_):AV)) a1)))]
def vT(a1:List L4):=(C7 (λ(v_:Aw)=>((Ve v_):AV)) a1)
def Hq(a3:Aa)(a7:Int)(a0:Ad)(a1:List L4)(a4:List Bd):Option jx:=
 ((Ms (S:=P9) (X:=jx) ((F4 a3 a7 a0 a1 a4).bind λx8=>((Af (Eh a1 x8) ((0:Int),x8.1.Params,x8.1.Ret,x8.1.Blocks,x8.2.1,x8.2.2.1,x8.2.2.2)).bind (λx30=>(match x30 with|(.inl (l16,i17,l18,i19,l20,l21))=>((Af (Ei a1 l21) ((0:Int),l16,i17,l18,i19,l20,l21)).bind (λx53=>(match x53 with|(.inl (l39,i40,l41,i42,l43,l44))=>((Af (Ej a1 l44) ((0:Int),l39,i40,l41,i42,l43,l44)).bind (λx76=>(match x76 with|(.inl (l62,i63,l64,i65,l66,l67))=>(some (.done ((0:Int),(⟨l62,i63,l64⟩:Aa),i65,l66,l67)))|(.inr (l68,i69,l70,i71,l72,l73))=>(some (.next ((7:Int),l68,i69,l70,i71,l72,l73))))))|(.inr (l45,i46,l47,i48,l49,l50))=>(some (.next ((6:Int),l45,i46,l47,i48,l49,l50))))))|(.inr (l22,i23,l24,i25,l26,l27))=>(some (.next ((7:Int),l22,i23,l24,i25,l26,l27))))))) Mv).bind (λx81=>(some x81)))
theorem Xu(h:Hq v0 v1 v2 v25 v12=some v13):sP 91 CZ [(Z2 v0.Params v0.Ret v0.Blocks v1 v2 9100005 v12),(Gy 37006 198 v12.length),(9100005,.obj (.map false .i64 (C7 (λ(v_:Aw)=>((Ve v_):AV)) v25)))] (Aq v13.1) [(Z2 v13.2.1.Params v13.2.1.Ret v13.2.1.Blocks v13.2.2.1 v13.2.2.2.1 9100005 v13.2.2.2.2),(Gy 37006 198 v13.2.2.2.2.length),(9100005,.obj (.map false .i64 (C7 (λ(v_:Aw)=>((Ve v_):AV)) v25)))]:=
 sG Tryz.func91 λΓ q=>Ag q [0] Gh (tB h λx81 y81 h=>gS y81 (λ(s_:P9)=>match s_ with|(i1,l2,i3,l4,i5,l6,l7)=>0) (λ(s_:P9)=>match s_ with|(i1,l2,i3,l4,i5,l6,l7)=>(⟨[(4,(Aq i1))],(ve l2 i3 l4 i5 l6 l7 l7.length (vT v25)),[]⟩:St)) (λr_=>aR (X2 Γ v0 v1 v2 v25 v12 r_)) (λy h=>tB h λx8 y8 h=>tT q [0] Gh [(vh x8.1.Params x8.1.Ret x8.1.Blocks x8.2.1 x8.2.2.1 x8.2.2.2 x8.2.2.2.length (vT v25))] (c1 (Tk y8)) (tW q Ln Jn Ln Jn (Ag q CU Gh (gU 3 (Ag q YZ Gh (BK true (tU q fX L5 (c1 (show(Ay (0:Int) 3) from(by decide))) (tW q fM L5 GT L5 (tL q h GT L5 (λu (i9,l10,i11,l12,i13,l14,l15)=>(Dv u [(Db 32 i9)] (WN l10 i11 l12 i13 l14 l15 l15.length))) (λu x_=>match x_ with|(.inl (l16,i17,l18,i19,l20,l21))=>aG Γ (.exit 2) (V4 CU Gh u [] (WN l16 i17 l18 i19 l20 l21 l21.length))|(.inr (l22,i23,l24,i25,l26,l27))=>aG Γ (.goto 0) (V4 [4] Gh u [] (WN l22 i23 l24 i25 l26 l27 l27.length))) (λ⟨i9,l10,i11,l12,i13,l14,l15⟩ y h=>Ag q er L5 (gC h (λh=>tV q ez e8 h λh=>tB h λx29 y29 h=>tT q et L5 [(s6 x29.1 x29.2.1.Params x29.2.1.Ret x29.2.1.Blocks x29.2.2.1 x29.2.2.2.1 x29.2.2.2.2 x29.2.2.2.2.length (vT v25))] (c1 (Tn y29)) (gC h (λh=>tS h (gO (B0 (Bs [4] Gh q)))) λh=>Ag q GT L5 (tN h))) λh=>tS h (gO (B0 (Bs CU Gh q))))) λx30 h=>(match x30,h with | .inl ⟨l16,i17,l18,i19,l20,l21⟩,h=>gA (tW q CU Gh YZ Gh (BK true (tU q fX L5 (c1 (show(Ay (1:Int) 3) from(by decide))) (tW q fM L5 GT L5 (tL q h GT L5 (λu (i32,l33,i34,l35,i36,l37,l38)=>(Dv u [(Db 32 i32)] (WN l33 i34 l35 i36 l37 l38 l38.length))) (λu x_=>match x_ with|(.inl (l39,i40,l41,i42,l43,l44))=>aG Γ (.exit 2) (V4 CU Gh u [] (WN l39 i40 l41 i42 l43 l44 l44.length))|(.inr (l45,i46,l47,i48,l49,l50))=>aG Γ (.goto 0) (V4 [4] Gh u [] (WN l45 i46 l47 i48 l49 l50 l50.length))) (λ⟨i32,l33,i34,l35,i36,l37,l38⟩ y h=>Ag q er L5 (gC h (λh=>tV q ez e8 h λh=>tB h λx52 y52 h=>tT q et L5 [(s6 x52.1 x52.2.1.Params x52.2.1.Ret x52.2.1.Blocks x52.2.2.1 x52.2.2.2.1 x52.2.2.2.2 x52.2.2.2.2.length (vT v25))] (c1 (Xs y52)) (gC h (λh=>tS h (gO (B0 (Bs [4] Gh q)))) λh=>Ag q GT L5 (tN h))) λh=>tS h (gO (B0 (Bs CU Gh q))))) λx53 h=>(match x53,h with | .inl ⟨l39,i40,l41,i42,l43,l44⟩,h=>gA (tW q CU Gh YZ Gh (BK true (tU q fX L5 (c1 (show(Ay (2:Int) 3) from(by decide))) (tW q fM L5 GT L5 (tL q h GT L5 (λu (i55,l56,i57,l58,i59,l60,l61)=>(Dv u [(Db 32 i55)] (WN l56 i57 l58 i59 l60 l61 l61.length))) (λu x_=>match x_ with|(.inl (l62,i63,l64,i65,l66,l67))=>aG Γ (.exit 2) (V4 CU Gh u [] (WN l62 i63 l64 i65 l66 l67 l67.length))|(.inr (l68,i69,l70,i71,l72,l73))=>aG Γ (.goto 0) (V4 [4] Gh u [] (WN l68 i69 l70 i71 l72 l73 l73.length))) (λ⟨i55,l56,i57,l58,i59,l60,l61⟩ y h=>Ag q er L5 (gC h (λh=>tV q ez e8 h λh=>tB h λx75 y75 h=>tT q et L5 [(s6 x75.1 x75.2.1.Params x75.2.1.Ret x75.2.1.Blocks x75.2.2.1 x75.2.2.2.1 x75.2.2.2.2 x75.2.2.2.2.length (vT v25))] (c1 (Tm y75)) (gC h (λh=>tS h (gO (B0 (Bs [4] Gh q)))) λh=>Ag q GT L5 (tN h))) λh=>tS h (gO (B0 (Bs CU Gh q))))) λx76 h=>(match x76,h with | .inl ⟨l62,i63,l64,i65,l66,l67⟩,h=>gA (tW q CU Gh YZ Gh (BK false (Ag q [2] Gh (tS h (JT (Oa (Hd Qi (Le.refl _ _)))))))) | .inr ⟨l68,i69,l70,i71,l72,l73⟩,h=>bL (λst' hl78=>tS h (dk (Le.trans hl78 Kb))))))))) | .inr ⟨l45,i46,l47,i48,l49,l50⟩,h=>bL (λst' hl79=>tS h (dk (Le.trans hl79 Kb))))))))) | .inr ⟨l22,i23,l24,i25,l26,l27⟩,h=>bL (λst' hl80=>tS h (dk (Le.trans hl80 Kb))))))))))))) (λ⟨i1,l2,i3,l4,i5,l6,l7⟩ y h=>Ag q [2] Gh (tS h (JT (Oa (Hd Qi (Le.refl _ _)))))) (gAr (λst' hk=>tS h (gK hk))))
def kF:=(λ(v_:Aw)=>((Ve v_):AV))
def ul(x1:jx):List U8:=(Z4 x1.2.1.Params x1.2.1.Ret x1.2.1.Blocks x1.2.2.1 x1.2.2.2.1 x1.2.2.2.2 x1.2.2.2.2.length)
def um(x2:jx):List U8:=(Z4 x2.2.1.Params x2.2.1.Ret x2.2.1.Blocks x2.2.2.1 x2.2.2.2.1 x2.2.2.2.2 x2.2.2.2.2.length)
def un(x3:jx):List U8:=(Z4 x3.2.1.Params x3.2.1.Ret x3.2.1.Blocks x3.2.2.1 x3.2.2.2.1 x3.2.2.2.2 x3.2.2.2.2.length)
def Hb(a3:Aa)(a7:Int)(a0:Ad)(a4:List Bd):Option rN:=
 ((Hp a3 a7 a0 a4).bind λx1=>(bif (x1.1 !=0) then(some (x1.1,x1.2.1,x1.2.2.1,x1.2.2.2.1,x1.2.2.2.2,([]:List L4))) else((Gm x1.2.1 x1.2.2.1 x1.2.2.2.1 x1.2.2.2.2).bind λx2=>(bif (x2.1 !=0) then(some (x2.1,x2.2.1,x2.2.2.1,x2.2.2.2.1,x2.2.2.2.2,([]:List L4))) else((Ha x2.2.1 x2.2.2.1 x2.2.2.2.1 x2.2.2.2.2).bind λx3=>(bif (x3.1 !=0) then(some (x3.1,x3.2.1,x3.2.2.1,x3.2.2.2.1,x3.2.2.2.2,([]:List L4))) else((F5 x3.2.1 x3.2.2.1 x3.2.2.2.1 x3.2.2.2.2).bind λx4=>(bif (x4.1 !=0) then(some (x4.1,x4.2.1,x4.2.2.1,x4.2.2.2.1,x4.2.2.2.2.1,x4.2.2.2.2.2)) else((Hq x4.2.1 x4.2.2.1 x4.2.2.2.1 x4.2.2.2.2.2 x4.2.2.2.2.1).bind λx5=>(bif (x5.1 !=0) then(some (x5.1,x5.2.1,x5.2.2.1,x5.2.2.2.1,x5.2.2.2.2,x4.2.2.2.2.2)) else(some ((0:Int),x5.2.1,x5.2.2.1,x5.2.2.2.1,x5.2.2.2.2,x4.2.2.2.2.2))))))))))))
theorem Vz(h:Hb v0 v1 v2 v12=some v27):sP 50 CZ (Z4 v0.Params v0.Ret v0.Blocks v1 v2 v12 v12.length) (Aq v27.1) [(Z2 v27.2.1.Params v27.2.1.Ret v27.2.1.Blocks v27.2.2.1 v27.2.2.2.1 9200005 v27.2.2.2.2.1),(Gy 37006 198 v27.2.2.2.2.1.length),(9200005,.obj (.map false .i64 (C7 (λ(v_:Aw)=>((Ve v_):AV)) v27.2.2.2.2.2)))]:=
 sG Tryz.func50 λΓ q=>tW q [0] C3 [3] RD (Ag q JI C3 (gU 5 (Ag q JD C3 (BK true (tU q RM C3 (c1 (show(Ay (0:Int) 5) from(by decide))) (tB h λx1 y1 h=>tT q RN C3 [(pQ 37006 x1.1 (ul x1))] (c1 (Xt y1)) (Ag q RI C3 (gC h (λh=>Ag q [2] C3 (O8 (⟨[(2,(Aq x1.1))],(ul x1),[]⟩:St) (tS h (gK (e:=.ret) (Hd n8 (Le.trans (Vp (r:=30000) (j:=5) (nm:=9300005) .i64 rfl rfl (nl rfl) rfl) (Bs (st':=⟨[(2,(Aq x1.1))],[(Z2 x1.2.1.Params x1.2.1.Ret x1.2.1.Blocks x1.2.2.1 x1.2.2.2.1 9300005 x1.2.2.2.2),(Gy 37006 198 x1.2.2.2.2.length),(9300005,.obj (.map false .i64 (C7 kF ([]:List L4))))],[]⟩) [2] fA q))))))) λh=>tW q JI C3 JD C3 (BK true (tU q RM C3 (c1 (show(Ay (1:Int) 5) from(by decide))) (tB h λx2 y2 h=>tT q RN C3 [(pQ 37006 x2.1 (um x2))] (c1 (Um y2)) (Ag q RI C3 (gC h (λh=>Ag q [2] C3 (O8 (⟨[(2,(Aq x2.1))],(um x2),[]⟩:St) (tS h (gK (e:=.ret) (Hd n8 (Le.trans (Vp (r:=30000) (j:=5) (nm:=9300005) .i64 rfl rfl (nl rfl) rfl) (Bs (st':=⟨[(2,(Aq x2.1))],[(Z2 x2.2.1.Params x2.2.1.Ret x2.2.1.Blocks x2.2.2.1 x2.2.2.2.1 9300005 x2.2.2.2.2),(Gy 37006 198 x2.2.2.2.2.length),(9300005,.obj (.map false .i64 (C7 kF ([]:List L4))))],[]⟩) [2] fA q))))))) λh=>tW q JI C3 JD C3 (BK true (tU q RM C3 (c1 (show(Ay (2:Int) 5) from(by decide))) (tB h λx3 y3 h=>tT q RN C3 [(pQ 37006 x3.1 (un x3))] (c1 (Vy y3)) (Ag q RI C3 (gC h (λh=>Ag q [2] C3 (O8 (⟨[(2,(Aq x3.1))],(un x3),[]⟩:St) (tS h (gK (e:=.ret) (Hd n8 (Le.trans (Vp (r:=30000) (j:=5) (nm:=9300005) .i64 rfl rfl (nl rfl) rfl) (Bs (st':=⟨[(2,(Aq x3.1))],[(Z2 x3.2.1.Params x3.2.1.Ret x3.2.1.Blocks x3.2.2.1 x3.2.2.2.1 9300005 x3.2.2.2.2),(Gy 37006 198 x3.2.2.2.2.length),(9300005,.obj (.map false .i64 (C7 kF ([]:List L4))))],[]⟩) [2] fA q))))))) λh=>tW q JI C3 JD C3 (BK true (tU q RM C3 (c1 (show(Ay (3:Int) 5) from(by decide))) (tB h λx4 y4 h=>tT q RN Wz [⟨Wy,[(9200005,13000005)],(Aq x4.1),[(Z2 x4.2.1.Params x4.2.1.Ret x4.2.1.Blocks x4.2.2.1 x4.2.2.2.1 9200005 x4.2.2.2.2.1),(Gy 37006 198 x4.2.2.2.2.1.length),(9200005,.obj (.map false .i64 (C7 kF x4.2.2.2.2.2)))],[],[]⟩] (c1 (Tl y4)) (Ag q RI Wz (gC h (λh=>Ag q [2] Wz (tS h (Bj n7))) λh=>tW q JI Wz JD Wz (BK true (tU q RM Wz (c1 (show(Ay (4:Int) 5) from(by decide))) (tB h λx5 y5 h=>tT q RN Wz [⟨[(30000,30000),(37006,37006),(13000005,9100005)],[],(Aq x5.1),[(Z2 x5.2.1.Params x5.2.1.Ret x5.2.1.Blocks x5.2.2.1 x5.2.2.2.1 9100005 x5.2.2.2.2),(Gy 37006 198 x5.2.2.2.2.length),(9100005,.obj (.map false .i64 (C7 kF x4.2.2.2.2.2)))],[],[]⟩] (c1 (Xu y5)) (Ag q RI Wz (gC h (λh=>Ag q [2] Wz (tS h (Bj n7))) λh=>tW q JI Wz JD Wz (BK false (Ag q [2] Wz (tS h (Bj n7))))))))))))))))))))))))))))))))
end
end Go.Proofs.YtlnbjgmjaioagaaGreat
