/-
  The machine, the program's functions and the laws' arithmetic: part 3 of 6.
-/
import Derived.Test.YtcddajbcbkbipaaGreatDoorPk2
import Derived.BigCall
import Derived.BigGuard
import Derived.Laws.Closers25
import Derived.Laws.Closers25b
import Derived.Laws.Strings3
import Derived.Lib.AppendIntMem
import Derived.Lib.ConvBytes
import Derived.Lib.Hide
import Derived.Lib.ParseIntBMem
import Derived.Lib.UnsafeStr
import Derived.Shelf.LaysM
import Derived.Shelf.Pu.ErrVarParseUint
import Derived.Shelf.Pu.ParseUintPublic10
import Derived.Shelf.Strconv.Itoa3
import Derived.Shelf.Strings.OnBuilder
import Derived.Test.YtcddajbcbkbipaaGreatDoorProg
import Derived.WalkKit
namespace Go.Proofs.YtcddajbcbkbipaaGreatDoor
open Go Go.Shelf
def lays165_ren : Go.Shelf.Ren := ⟨fun | 165 => 60 | 240 => 59 | 241 => 80 | 276 => 79 | 277 => 91 | n => n, fun | 70 => 50 | 3 => 3 | 0 => 0 | 4 => 4 | 9 => 9 | 20 => 20 | 72 => 52 | 37 => 31 | 164 => 123 | 5 => 5 | n => n, fun | n => n⟩
theorem lays165 : Go.Proofs.Lays.n165 Tryz.prog lays165_ren := {
  mixed := by kernel_rfl
  f165 := Tryz.func60.trans (congrArg some (by kernel_rfl))
  f240 := Tryz.func59.trans (congrArg some (by kernel_rfl))
  f241 := Tryz.func80.trans (congrArg some (by kernel_rfl))
  f276 := Tryz.func79.trans (congrArg some (by kernel_rfl))
  f277 := Tryz.func91.trans (congrArg some (by kernel_rfl))
  t0 := Tryz.underlying0
  a0 := Tryz.isAgg0
  z0 := Tryz.sizeOf0
  v0 := Tryz.zeroValue0
  t3 := Tryz.underlying3
  a3 := Tryz.isAgg3
  z3 := Tryz.sizeOf3
  v3 := Tryz.zeroValue3
  t4 := Tryz.underlying4
  a4 := Tryz.isAgg4
  z4 := Tryz.sizeOf4
  v4 := Tryz.zeroValue4
  t9 := Tryz.underlying9
  a9 := Tryz.isAgg9
  z9 := Tryz.sizeOf9
  v9 := Tryz.zeroValue9
  t20 := Tryz.underlying20
  a20 := Tryz.isAgg20
  z20 := Tryz.sizeOf20
  v20 := Tryz.zeroValue20
  t37 := Tryz.underlying31
  a37 := Tryz.isAgg31
  z37 := Tryz.sizeOf31
  v37 := Tryz.zeroValue31
  t70 := Tryz.underlying50
  a70 := Tryz.isAgg50
  z70 := Tryz.sizeOf50
  v70 := Tryz.zeroValue50
  t72 := Tryz.underlying52
  a72 := Tryz.isAgg52
  z72 := Tryz.sizeOf52
  v72 := Tryz.zeroValue52
  t164 := Tryz.underlying123
  a164 := Tryz.isAgg123
  z164 := Tryz.sizeOf123
  v164 := Tryz.zeroValue123 }
theorem Builder_Extra_165 : Builder.Extra Tryz.prog lays165_ren := {
  sizeBuilder := by kernel_rfl
  liesBuilder := by kernel_rfl
  t5 := Tryz.underlying5
  a5 := Tryz.isAgg5
  z5 := Tryz.sizeOf5
  v5 := Tryz.zeroValue5
  infoByte := by kernel_rfl
  cellsByte := by kernel_rfl
  sizeByte := by kernel_rfl
  neB5 := by decide }
def lays156_ren : Go.Shelf.Ren := ⟨fun | 156 => 35 | 165 => 60 | 166 => 34 | 169 => 18 | 240 => 59 | 241 => 80 | 276 => 79 | 277 => 91 | n => n, fun | 31 => 80 | 9 => 9 | 3 => 3 | 4 => 4 | 0 => 0 | 20 => 20 | 72 => 52 | 76 => 83 | 70 => 50 | 37 => 31 | 75 => 82 | 127 => 87 | 164 => 123 | 5 => 5 | 80 => 59 | n => n, fun | n => n⟩
theorem lays156 : Go.Proofs.Lays.n156 Tryz.prog lays156_ren := {
  mixed := by kernel_rfl
  f156 := Tryz.func35.trans (congrArg some (by kernel_rfl))
  f165 := Tryz.func60.trans (congrArg some (by kernel_rfl))
  f166 := Tryz.func34.trans (congrArg some (by kernel_rfl))
  f169 := Tryz.func18.trans (congrArg some (by kernel_rfl))
  f240 := Tryz.func59.trans (congrArg some (by kernel_rfl))
  f241 := Tryz.func80.trans (congrArg some (by kernel_rfl))
  f276 := Tryz.func79.trans (congrArg some (by kernel_rfl))
  f277 := Tryz.func91.trans (congrArg some (by kernel_rfl))
  t0 := Tryz.underlying0
  a0 := Tryz.isAgg0
  z0 := Tryz.sizeOf0
  v0 := Tryz.zeroValue0
  t3 := Tryz.underlying3
  a3 := Tryz.isAgg3
  z3 := Tryz.sizeOf3
  v3 := Tryz.zeroValue3
  t4 := Tryz.underlying4
  a4 := Tryz.isAgg4
  z4 := Tryz.sizeOf4
  v4 := Tryz.zeroValue4
  t9 := Tryz.underlying9
  a9 := Tryz.isAgg9
  z9 := Tryz.sizeOf9
  v9 := Tryz.zeroValue9
  t20 := Tryz.underlying20
  a20 := Tryz.isAgg20
  z20 := Tryz.sizeOf20
  v20 := Tryz.zeroValue20
  t31 := Tryz.underlying80
  a31 := Tryz.isAgg80
  z31 := Tryz.sizeOf80
  v31 := Tryz.zeroValue80
  t37 := Tryz.underlying31
  a37 := Tryz.isAgg31
  z37 := Tryz.sizeOf31
  v37 := Tryz.zeroValue31
  t70 := Tryz.underlying50
  a70 := Tryz.isAgg50
  z70 := Tryz.sizeOf50
  v70 := Tryz.zeroValue50
  t72 := Tryz.underlying52
  a72 := Tryz.isAgg52
  z72 := Tryz.sizeOf52
  v72 := Tryz.zeroValue52
  t75 := Tryz.underlying82
  a75 := Tryz.isAgg82
  z75 := Tryz.sizeOf82
  v75 := Tryz.zeroValue82
  t76 := Tryz.underlying83
  a76 := Tryz.isAgg83
  z76 := Tryz.sizeOf83
  v76 := Tryz.zeroValue83
  t127 := Tryz.underlying87
  a127 := Tryz.isAgg87
  z127 := Tryz.sizeOf87
  v127 := Tryz.zeroValue87
  t164 := Tryz.underlying123
  a164 := Tryz.isAgg123
  z164 := Tryz.sizeOf123
  v164 := Tryz.zeroValue123 }
theorem Builder_Extra_156 : Builder.Extra Tryz.prog lays156_ren := {
  sizeBuilder := by kernel_rfl
  liesBuilder := by kernel_rfl
  t5 := Tryz.underlying5
  a5 := Tryz.isAgg5
  z5 := Tryz.sizeOf5
  v5 := Tryz.zeroValue5
  infoByte := by kernel_rfl
  cellsByte := by kernel_rfl
  sizeByte := by kernel_rfl
  neB5 := by decide }
def laysM171_ren : Go.Shelf.Ren := ⟨fun | 171 => 37 | 243 => 61 | 246 => 81 | 283 => 62 | 284 => 63 | 285 => 64 | 286 => 65 | 129 => 83 | 317 => 82 | 318 => 84 | 319 => 85 | 320 => 86 | 337 => 92 | 338 => 93 | n => n, fun | 3 => 3 | 9 => 9 | 2 => 2 | 4 => 4 | 171 => 106 | 0 => 0 | 53 => 39 | 37 => 31 | 5 => 5 | 173 => 109 | 212 => 128 | 51 => 129 | 20 => 20 | 213 => 130 | 46 => 111 | 232 => 141 | 233 => 142 | n => n, fun | 17 => 2 | 18 => 4 | 19 => 5 | n => n⟩
theorem laysM171 : Go.Proofs.LaysM.n171 Tryz.prog laysM171_ren := {
  mixed := by kernel_rfl
  f129 := Tryz.func83.trans (congrArg some (by kernel_rfl))
  f171 := Tryz.func37.trans (congrArg some (by kernel_rfl))
  f243 := Tryz.func61.trans (congrArg some (by kernel_rfl))
  f246 := Tryz.func81.trans (congrArg some (by kernel_rfl))
  f283 := Tryz.func62.trans (congrArg some (by kernel_rfl))
  f284 := Tryz.func63.trans (congrArg some (by kernel_rfl))
  f285 := Tryz.func64.trans (congrArg some (by kernel_rfl))
  f286 := Tryz.func65.trans (congrArg some (by kernel_rfl))
  f317 := Tryz.func82.trans (congrArg some (by kernel_rfl))
  f318 := Tryz.func84.trans (congrArg some (by kernel_rfl))
  f319 := Tryz.func85.trans (congrArg some (by kernel_rfl))
  f320 := Tryz.func86.trans (congrArg some (by kernel_rfl))
  f337 := Tryz.func92.trans (congrArg some (by kernel_rfl))
  f338 := Tryz.func93.trans (congrArg some (by kernel_rfl))
  t0 := Tryz.underlying0
  a0 := Tryz.isAgg0
  z0 := Tryz.sizeOf0
  v0 := Tryz.zeroValue0
  t2 := Tryz.underlying2
  a2 := Tryz.isAgg2
  z2 := Tryz.sizeOf2
  v2 := Tryz.zeroValue2
  t3 := Tryz.underlying3
  a3 := Tryz.isAgg3
  z3 := Tryz.sizeOf3
  v3 := Tryz.zeroValue3
  t4 := Tryz.underlying4
  a4 := Tryz.isAgg4
  z4 := Tryz.sizeOf4
  v4 := Tryz.zeroValue4
  t5 := Tryz.underlying5
  a5 := Tryz.isAgg5
  z5 := Tryz.sizeOf5
  v5 := Tryz.zeroValue5
  t9 := Tryz.underlying9
  a9 := Tryz.isAgg9
  z9 := Tryz.sizeOf9
  v9 := Tryz.zeroValue9
  t20 := Tryz.underlying20
  a20 := Tryz.isAgg20
  z20 := Tryz.sizeOf20
  v20 := Tryz.zeroValue20
  t37 := Tryz.underlying31
  a37 := Tryz.isAgg31
  z37 := Tryz.sizeOf31
  v37 := Tryz.zeroValue31
  t46 := Tryz.underlying111
  a46 := Tryz.isAgg111
  z46 := Tryz.sizeOf111
  v46 := Tryz.zeroValue111
  t51 := Tryz.underlying129
  a51 := Tryz.isAgg129
  z51 := Tryz.sizeOf129
  v51 := Tryz.zeroValue129
  t53 := Tryz.underlying39
  a53 := Tryz.isAgg39
  z53 := Tryz.sizeOf39
  v53 := Tryz.zeroValue39
  t171 := Tryz.underlying106
  a171 := Tryz.isAgg106
  z171 := Tryz.sizeOf106
  v171 := Tryz.zeroValue106
  t173 := Tryz.underlying109
  a173 := Tryz.isAgg109
  z173 := Tryz.sizeOf109
  v173 := Tryz.zeroValue109
  t212 := Tryz.underlying128
  a212 := Tryz.isAgg128
  z212 := Tryz.sizeOf128
  v212 := Tryz.zeroValue128
  t213 := Tryz.underlying130
  a213 := Tryz.isAgg130
  z213 := Tryz.sizeOf130
  t232 := Tryz.underlying141
  a232 := Tryz.isAgg141
  z232 := Tryz.sizeOf141
  v232 := Tryz.zeroValue141
  t233 := Tryz.underlying142
  a233 := Tryz.isAgg142
  z233 := Tryz.sizeOf142
  v233 := Tryz.zeroValue142
  g17 := by kernel_rfl
  g18 := by kernel_rfl
  g19 := by kernel_rfl
  i0 := by kernel_rfl
  i2 := by kernel_rfl
  i3 := by kernel_rfl
  i4 := by kernel_rfl
  i5 := by kernel_rfl
  i9 := by kernel_rfl
  i20 := by kernel_rfl
  i37 := by kernel_rfl
  i46 := by kernel_rfl
  i51 := by kernel_rfl
  i53 := by kernel_rfl
  i171 := by kernel_rfl
  i173 := by kernel_rfl
  i212 := by kernel_rfl
  i232 := by kernel_rfl
  i233 := by kernel_rfl
  m17 := by kernel_rfl
  m18 := by kernel_rfl
  m19 := by kernel_rfl }
def laysPu14_ren : Go.Shelf.Ren := ⟨fun | 14 => 87 | 16 => 94 | 17 => 95 | 19 => 97 | 20 => 98 | 21 => 99 | 22 => 100 | 23 => 101 | 24 => 102 | 25 => 104 | 27 => 37 | 26 => 105 | 28 => 61 | 29 => 81 | 30 => 62 | 31 => 63 | 32 => 64 | 33 => 65 | 35 => 83 | 34 => 82 | 36 => 84 | 37 => 85 | 38 => 86 | 39 => 92 | 40 => 93 | n => n, fun | 9 => 9 | 3 => 3 | 22 => 39 | 24 => 82 | 25 => 133 | 4 => 4 | 34 => 143 | 5 => 5 | 36 => 111 | 37 => 31 | 0 => 0 | 39 => 146 | 21 => 21 | 44 => 152 | 47 => 87 | 50 => 156 | 48 => 154 | 2 => 2 | 52 => 106 | 55 => 109 | 59 => 128 | 60 => 129 | 20 => 20 | 61 => 130 | 65 => 141 | 66 => 142 | 67 => 59 | n => n, fun | 0 => 6 | 1 => 7 | 2 => 2 | 3 => 4 | 4 => 5 | n => n⟩
theorem laysPu14 : Go.Proofs.LaysPu.n14 Tryz.prog laysPu14_ren := {
  mixed := by kernel_rfl
  f14 := Tryz.func87.trans (congrArg some (by kernel_rfl))
  f16 := Tryz.func94.trans (congrArg some (by kernel_rfl))
  f17 := Tryz.func95.trans (congrArg some (by kernel_rfl))
  f19 := Tryz.func97.trans (congrArg some (by kernel_rfl))
  f20 := Tryz.func98.trans (congrArg some (by kernel_rfl))
  f21 := Tryz.func99.trans (congrArg some (by kernel_rfl))
  f22 := Tryz.func100.trans (congrArg some (by kernel_rfl))
  f23 := Tryz.func101.trans (congrArg some (by kernel_rfl))
  f24 := Tryz.func102.trans (congrArg some (by kernel_rfl))
  f25 := Tryz.func104.trans (congrArg some (by kernel_rfl))
  f26 := Tryz.func105.trans (congrArg some (by kernel_rfl))
  f27 := Tryz.func37.trans (congrArg some (by kernel_rfl))
  f28 := Tryz.func61.trans (congrArg some (by kernel_rfl))
  f29 := Tryz.func81.trans (congrArg some (by kernel_rfl))
  f30 := Tryz.func62.trans (congrArg some (by kernel_rfl))
  f31 := Tryz.func63.trans (congrArg some (by kernel_rfl))
  f32 := Tryz.func64.trans (congrArg some (by kernel_rfl))
  f33 := Tryz.func65.trans (congrArg some (by kernel_rfl))
  f34 := Tryz.func82.trans (congrArg some (by kernel_rfl))
  f35 := Tryz.func83.trans (congrArg some (by kernel_rfl))
  f36 := Tryz.func84.trans (congrArg some (by kernel_rfl))
  f37 := Tryz.func85.trans (congrArg some (by kernel_rfl))
  f38 := Tryz.func86.trans (congrArg some (by kernel_rfl))
  f39 := Tryz.func92.trans (congrArg some (by kernel_rfl))
  f40 := Tryz.func93.trans (congrArg some (by kernel_rfl))
  t0 := Tryz.underlying0
  a0 := Tryz.isAgg0
  z0 := Tryz.sizeOf0
  v0 := Tryz.zeroValue0
  i0 := by kernel_rfl
  t2 := Tryz.underlying2
  a2 := Tryz.isAgg2
  z2 := Tryz.sizeOf2
  v2 := Tryz.zeroValue2
  i2 := by kernel_rfl
  t3 := Tryz.underlying3
  a3 := Tryz.isAgg3
  z3 := Tryz.sizeOf3
  v3 := Tryz.zeroValue3
  i3 := by kernel_rfl
  t4 := Tryz.underlying4
  a4 := Tryz.isAgg4
  z4 := Tryz.sizeOf4
  v4 := Tryz.zeroValue4
  i4 := by kernel_rfl
  t5 := Tryz.underlying5
  a5 := Tryz.isAgg5
  z5 := Tryz.sizeOf5
  v5 := Tryz.zeroValue5
  i5 := by kernel_rfl
  t9 := Tryz.underlying9
  a9 := Tryz.isAgg9
  z9 := Tryz.sizeOf9
  v9 := Tryz.zeroValue9
  i9 := by kernel_rfl
  t20 := Tryz.underlying20
  a20 := Tryz.isAgg20
  z20 := Tryz.sizeOf20
  v20 := Tryz.zeroValue20
  i20 := by kernel_rfl
  t21 := Tryz.underlying21
  a21 := Tryz.isAgg21
  z21 := Tryz.sizeOf21
  v21 := Tryz.zeroValue21
  i21 := by kernel_rfl
  t22 := Tryz.underlying39
  a22 := Tryz.isAgg39
  z22 := Tryz.sizeOf39
  v22 := Tryz.zeroValue39
  i22 := by kernel_rfl
  t24 := Tryz.underlying82
  a24 := Tryz.isAgg82
  z24 := Tryz.sizeOf82
  v24 := Tryz.zeroValue82
  i24 := by kernel_rfl
  t25 := Tryz.underlying133
  a25 := Tryz.isAgg133
  z25 := Tryz.sizeOf133
  v25 := Tryz.zeroValue133
  i25 := by kernel_rfl
  t34 := Tryz.underlying143
  a34 := Tryz.isAgg143
  z34 := Tryz.sizeOf143
  v34 := Tryz.zeroValue143
  i34 := by kernel_rfl
  c34 := by kernel_rfl
  t36 := Tryz.underlying111
  a36 := Tryz.isAgg111
  z36 := Tryz.sizeOf111
  v36 := Tryz.zeroValue111
  i36 := by kernel_rfl
  t37 := Tryz.underlying31
  a37 := Tryz.isAgg31
  z37 := Tryz.sizeOf31
  v37 := Tryz.zeroValue31
  i37 := by kernel_rfl
  t39 := Tryz.underlying146
  a39 := Tryz.isAgg146
  z39 := Tryz.sizeOf146
  v39 := Tryz.zeroValue146
  i39 := by kernel_rfl
  t44 := Tryz.underlying152
  a44 := Tryz.isAgg152
  z44 := Tryz.sizeOf152
  v44 := Tryz.zeroValue152
  i44 := by kernel_rfl
  t47 := Tryz.underlying87
  a47 := Tryz.isAgg87
  z47 := Tryz.sizeOf87
  v47 := Tryz.zeroValue87
  i47 := by kernel_rfl
  t48 := Tryz.underlying154
  a48 := Tryz.isAgg154
  z48 := Tryz.sizeOf154
  v48 := Tryz.zeroValue154
  i48 := by kernel_rfl
  t50 := Tryz.underlying156
  a50 := Tryz.isAgg156
  z50 := Tryz.sizeOf156
  v50 := Tryz.zeroValue156
  i50 := by kernel_rfl
  t52 := Tryz.underlying106
  a52 := Tryz.isAgg106
  z52 := Tryz.sizeOf106
  v52 := Tryz.zeroValue106
  i52 := by kernel_rfl
  t55 := Tryz.underlying109
  a55 := Tryz.isAgg109
  z55 := Tryz.sizeOf109
  v55 := Tryz.zeroValue109
  i55 := by kernel_rfl
  t59 := Tryz.underlying128
  a59 := Tryz.isAgg128
  z59 := Tryz.sizeOf128
  v59 := Tryz.zeroValue128
  i59 := by kernel_rfl
  t60 := Tryz.underlying129
  a60 := Tryz.isAgg129
  z60 := Tryz.sizeOf129
  v60 := Tryz.zeroValue129
  i60 := by kernel_rfl
  t61 := Tryz.underlying130
  a61 := Tryz.isAgg130
  z61 := Tryz.sizeOf130
  t65 := Tryz.underlying141
  a65 := Tryz.isAgg141
  z65 := Tryz.sizeOf141
  v65 := Tryz.zeroValue141
  i65 := by kernel_rfl
  t66 := Tryz.underlying142
  a66 := Tryz.isAgg142
  z66 := Tryz.sizeOf142
  v66 := Tryz.zeroValue142
  i66 := by kernel_rfl
  t67 := Tryz.underlying59
  a67 := Tryz.isAgg59
  z67 := Tryz.sizeOf59
  v67 := Tryz.zeroValue59
  i67 := by kernel_rfl
  g0 := by kernel_rfl
  m0 := by kernel_rfl
  g1 := by kernel_rfl
  m1 := by kernel_rfl
  g2 := by kernel_rfl
  m2 := by kernel_rfl
  g3 := by kernel_rfl
  m3 := by kernel_rfl
  g4 := by kernel_rfl
  m4 := by kernel_rfl }
end Go.Proofs.YtcddajbcbkbipaaGreatDoor

namespace Go.Proofs.YtcddajbcbkbipaaGreatDoor
open Go Go.Shelf Go.RowKit Go.Sort

theorem c_Len64 (x : Int) (w : World) (h0 : 0 ≤ x) (h1 : x ≤ 18446744073709551615) : Calls Tryz.prog 83 #[.int .u64 x] w fun e w' => e = .returned (.int .i64 (Lib.bitLen x.toNat)) ∧ w' = w :=
  Any.bits_Len64 { laysM171 with } x w h0 h1
theorem c_log10 (x : Nat) (h : x ≤ 64) (w : World) : Calls Tryz.prog 82 #[.int .i64 (x : Int)] w fun e w' => e = .returned (.int .i64 (Lib.l10 x)) ∧ w' = w :=
  Any.internal_strconv_log10Pow2 { laysM171 with } x h w
theorem c_bool2 (b : Bool) (w : World) : Calls Tryz.prog 84 #[.bool b] w fun e w' => e = .returned (.int .i64 (if b = true then 1 else 0)) ∧ w' = w :=
  Any.internal_strconv_bool2_int { laysM171 with } b w
theorem c_small (i : Nat) (h : i < 100) (w : World) : Calls Tryz.prog 62 #[.int .i64 (i : Int)] w fun e w' => e = .returned (.string ⟨(Lib.decDigits i).toArray⟩) ∧ w' = w :=
  Any.internal_strconv_small { laysM171 with } i h w
theorem c_format (blk off cap u : Nat) (d : Array UInt8) (w : World) (hH : Holds (fun (b : UInt8) => Value.int .u8 (b.toNat : Int)) w blk off d) (hu : u < 10 ^ d.size) (hu64 : u < 18446744073709551616) (hsz : d.size < 4611686018427387904) :
    Calls Tryz.prog 64 #[.slice (some ⟨blk, off, none⟩) d.size cap, .int .u64 (u : Int)] w fun e w' =>
      e = .returned (.tuple #[]) ∧ ∃ (n v' : Nat) (dk : Array UInt8), w' = (putRow (fun (b : UInt8) => Value.int .u8 (b.toNat : Int)) w blk off dk).drewN n ∧ Lib.FmtInv d.size u 0 v' dk :=
  Any.internal_strconv_formatBase10 { laysM171 with } blk off cap u d w hH hu hu64 hsz

/-- The table of powers of ten, cell by cell. -/
def Pow10 (w : World) : Prop := ∀ i, i < 20 → w.cell? ⟨2, i, none⟩ = some (.int .u64 ((10 ^ i : Nat) : Int))
theorem Pow10.alloc {w : World} (h : Pow10 w) (o : Obj) : Pow10 (w.alloc o) := fun i hi => (World.cell?_alloc_lt (w := w) (o := o) (a := ⟨2, i, none⟩) (World.block_lt_of_cell? (a := ⟨_, i, none⟩) (h := h i hi))).trans (h i hi)

set_option maxHeartbeats 4000000 in
set_option maxRecDepth 100000 in
/-- How many digits a number has. -/
theorem w_numDigits (u : Nat) (h1 : 1 ≤ u) (h2 : u < 18446744073709551616) (w : World) (hp : Pow10 w) :
    Calls Tryz.prog 63 #[.int .u64 (u : Int)] w fun e w' => e = .returned (.int .i64 (Lib.nDigits u)) ∧ w' = w := by
  obtain ⟨hnd, h19⟩ := Lib.numDigits_eq u h1 h2
  have hL : Lib.bitLen u ≤ 64 := Lib.bitLen_le u 64 (Nat.le_refl _) h2
  have hto : ((u : Int)).toNat = u := by omega
  generalize hq : Lib.l10 (Lib.bitLen u) = q at hnd h19
  have h20 : q < 20 := by omega
  have hcell := hp q h20
  generalize hT : 10 ^ q = T at hnd hcell
  have Hnd := Lib.hid hnd
  clear hnd hp
  go_enter Tryz.func63, Tryz.ntmps63
  go_wp2_with (first
    | (go_at_call 83; refine (c_Len64 _ _ (by omega) (by omega)).mono ?_; rintro e w' ⟨rfl, rfl⟩)
    | (go_at_call 82; refine (c_log10 _ (by first | exact hL | (rw [hto]; exact hL)) _).mono ?_; rintro e w' ⟨rfl, rfl⟩)
    | (go_at_call 84; refine (c_bool2 _ _).mono ?_; rintro e w' ⟨rfl, rfl⟩))
  all_goals go_ret
  all_goals (
    refine ⟨?_, rfl⟩
    have hnd := Hnd.out
    congr 2
    split at hnd <;> simp_all <;> omega)

set_option maxHeartbeats 8000000 in
set_option maxRecDepth 100000 in
/-- A number as digits. -/
theorem w_FormatUint (u : Nat) (hu64 : u < 18446744073709551616) (w : World) (hp : Pow10 w) :
    Calls Tryz.prog 38 #[.int .u64 (u : Int), .int .i64 10] w fun e w' => e = .returned (.string ⟨(Lib.decDigits u).toArray⟩) ∧ ∃ k os, w' = grow (w.drewN k) os := by
  by_cases hs : u < 100
  · have hcs := c_small u hs
    go_enter Tryz.func38, Tryz.ntmps38
    go_wp2_with (go_at_call 62; refine (hcs _).mono ?_; rintro e w' ⟨rfl, rfl⟩)
    go_ret
    exact ⟨rfl, 0, #[], by simp [World.drewN_zero]⟩
  · have hu1 : 1 ≤ u := by omega
    have hnd20 : Lib.nDigits u ≤ 20 := by have := Lib.numDigits_eq u hu1 hu64; split at this <;> omega
    have hal : Tryz.prog.arrayLen 106 = 24 := by simp [Program.arrayLen, Tryz.underlying106]
    have hsl1 : ∀ W, (Instr.sliceAt 106 (.pointer (some ⟨w.heap.size, 0, none⟩)) none (some (.int .i64 (Lib.nDigits u : Int))) none).run Tryz.prog W = .ok (.slice (some ⟨w.heap.size, 0, none⟩) (Lib.nDigits u) 24) W := fun W => by
      rw [run_sliceAt_array_h W 106 ⟨w.heap.size, 0, none⟩ (by simp [Program.arrayLen, Program.elem, Tryz.underlying106]) .i64 (Lib.nDigits u : Int) (by omega) (by rw [hal]; omega)]
      go_simp
    have hH0 := Lib.holds_zero0 w 106 (Lib.nDigits u) (by omega)
    have hfmt := c_format w.heap.size 0 24 u (Array.replicate (Lib.nDigits u) 0) (w.alloc (.cells Lib.zeros24 106)) hH0 (by rw [Array.size_replicate]; exact Lib.lt_pow_nDigits u) hu64 (by rw [Array.size_replicate]; omega)
    rw [Array.size_replicate] at hfmt
    have HH0 := Lib.hid hH0
    clear hH0 hal
    go_enter Tryz.func38, Tryz.ntmps38
    go_wp2_with (first
      | (go_at_call 63; refine (w_numDigits u hu1 hu64 _ (hp.alloc _)).mono ?_; rintro e w' ⟨rfl, rfl⟩))
    go_at_call 64
    refine hfmt.mono ?_
    rintro e w' ⟨rfl, k, v', dk, rfl, hF⟩
    have hcv : (convert 31 9 (.slice (some ⟨w.heap.size, 0, none⟩) (Lib.nDigits u) 24)).run Tryz.prog ((putRow (fun (b : UInt8) => Value.int .u8 (b.toNat : Int)) (w.alloc (.cells Lib.zeros24 106)) w.heap.size 0 dk).drewN k) = .ok (.string ⟨(Lib.decDigits u).toArray⟩) ((putRow (fun (b : UInt8) => Value.int .u8 (b.toNat : Int)) (w.alloc (.cells Lib.zeros24 106)) w.heap.size 0 dk).drewN k) := by
      have h := run_convert_bytes_back (P := Tryz.prog) ((putRow (fun (b : UInt8) => Value.int .u8 (b.toNat : Int)) (w.alloc (.cells Lib.zeros24 106)) w.heap.size 0 dk).drewN k) 31 9 5 ⟨w.heap.size, 0, none⟩ 24 (Lib.decDigits u) Tryz.underlying31 Tryz.underlying5 Tryz.underlying9 (fun j hj => by
        rw [Lib.row_is_numeral hF j hj, Lib.add_plain, World.cell?_drewN]
        exact cell?_putRow (fun (b : UInt8) => Value.int .u8 (b.toNat : Int)) _ w.heap.size 0 _ dk HH0.out (by rw [hF.size, Array.size_replicate]) j (by rw [hF.size]; rw [Lib.decDigits_length] at hj; exact hj))
      rw [Lib.decDigits_length] at h
      exact h
    go_wp2
    go_ret
    obtain ⟨os, eo⟩ := Lib.fin_at w (.cells Lib.zeros24 106) dk k 0
    exact ⟨rfl, k, os, eo⟩

set_option maxHeartbeats 8000000 in
set_option maxRecDepth 100000 in
/-- The same of a number of the other kind, from 0 on. -/
theorem w_FormatInt (u : Nat) (h63 : u < 9223372036854775808) (w : World) (hp : Pow10 w) :
    Calls Tryz.prog 81 #[.int .i64 (u : Int), .int .i64 10] w fun e w' => e = .returned (.string ⟨(Lib.decDigits u).toArray⟩) ∧ ∃ k os, w' = grow (w.drewN k) os := by
  by_cases hs : u < 100
  · have hcs := c_small u hs
    go_enter Tryz.func81, Tryz.ntmps81
    go_wp2_with (go_at_call 62; refine (hcs _).mono ?_; rintro e w' ⟨rfl, rfl⟩)
    go_ret
    exact ⟨rfl, 0, #[], by simp [World.drewN_zero]⟩
  · have hu1 : 1 ≤ u := by omega
    have hu64 : u < 18446744073709551616 := by omega
    have hnd20 : Lib.nDigits u ≤ 20 := by have := Lib.numDigits_eq u hu1 hu64; split at this <;> omega
    have hb3 : Lib.nDigits u ≤ 23 := by omega
    have hal : Tryz.prog.arrayLen 106 = 24 := by simp [Program.arrayLen, Tryz.underlying106]
    have hsl1 : ∀ W, (Instr.sliceAt 106 (.pointer (some ⟨w.heap.size, 0, none⟩)) (some (.int .i64 1)) (some (.int .i64 (1 + (Lib.nDigits u : Int)))) none).run Tryz.prog W = .ok (.slice (some ⟨w.heap.size, 1, none⟩) (Lib.nDigits u) 23) W := fun W => by
      rw [run_sliceAt_array_lh W 106 ⟨w.heap.size, 0, none⟩ (by simp [Program.arrayLen, Program.elem, Tryz.underlying106]) .i64 .i64 1 (1 + (Lib.nDigits u : Int)) (by omega) (by omega) (by rw [hal]; omega)]
      go_simp
      omega
    have hH0 := Lib.holds_zero w 106 (Lib.nDigits u) (by omega)
    have hfmt := c_format w.heap.size 1 23 u (Array.replicate (Lib.nDigits u) 0) (w.alloc (.cells Lib.zeros24 106)) hH0 (by rw [Array.size_replicate]; exact Lib.lt_pow_nDigits u) hu64 (by rw [Array.size_replicate]; omega)
    rw [Array.size_replicate] at hfmt
    have HH0 := Lib.hid hH0
    clear hH0 hal
    go_enter Tryz.func81, Tryz.ntmps81
    go_wp2_with (first
      | (go_at_call 63; refine (w_numDigits u hu1 hu64 _ (hp.alloc _)).mono ?_; rintro e w' ⟨rfl, rfl⟩))
    go_at_call 64
    refine hfmt.mono ?_
    rintro e w' ⟨rfl, k, v', dk, rfl, hF⟩
    have hcv : (convert 31 9 (.slice (some ⟨w.heap.size, 1, none⟩) (Lib.nDigits u) 23)).run Tryz.prog ((putRow (fun (b : UInt8) => Value.int .u8 (b.toNat : Int)) (w.alloc (.cells Lib.zeros24 106)) w.heap.size 1 dk).drewN k) = .ok (.string ⟨(Lib.decDigits u).toArray⟩) ((putRow (fun (b : UInt8) => Value.int .u8 (b.toNat : Int)) (w.alloc (.cells Lib.zeros24 106)) w.heap.size 1 dk).drewN k) := by
      have h := run_convert_bytes_back (P := Tryz.prog) ((putRow (fun (b : UInt8) => Value.int .u8 (b.toNat : Int)) (w.alloc (.cells Lib.zeros24 106)) w.heap.size 1 dk).drewN k) 31 9 5 ⟨w.heap.size, 1, none⟩ 23 (Lib.decDigits u) Tryz.underlying31 Tryz.underlying5 Tryz.underlying9 (fun j hj => by
        rw [Lib.row_is_numeral hF j hj, Lib.add_plain, World.cell?_drewN]
        exact cell?_putRow (fun (b : UInt8) => Value.int .u8 (b.toNat : Int)) _ w.heap.size 1 _ dk HH0.out (by rw [hF.size, Array.size_replicate]) j (by rw [hF.size]; rw [Lib.decDigits_length] at hj; exact hj))
      rw [Lib.decDigits_length] at h
      exact h
    go_wp2
    go_ret
    obtain ⟨os, eo⟩ := Lib.fin_at w (.cells Lib.zeros24 106) dk k 1
    exact ⟨rfl, k, os, eo⟩

set_option maxRecDepth 100000 in
theorem w_Itoa (u : Nat) (h63 : u < 9223372036854775808) (w : World) (hp : Pow10 w) :
    Calls Tryz.prog 37 #[.int .i64 (u : Int)] w fun e w' => e = .returned (.string ⟨(Lib.decDigits u).toArray⟩) ∧ ∃ k os, w' = grow (w.drewN k) os := by
  have hI : Calls Tryz.prog 61 #[.int .i64 (u : Int)] w fun e w' => e = .returned (.string ⟨(Lib.decDigits u).toArray⟩) ∧ ∃ k os, w' = grow (w.drewN k) os := by
    have hF := w_FormatInt u h63 w hp
    go_enter Tryz.func61, Tryz.ntmps61
    go_wp2_with (go_at_call 81; refine hF.mono ?_; rintro e w' ⟨rfl, k, os, rfl⟩)
    go_ret
    exact ⟨rfl, k, os, rfl⟩
  go_enter Tryz.func37, Tryz.ntmps37
  go_wp2_with (go_at_call 61; refine hI.mono ?_; rintro e w' ⟨rfl, k, os, rfl⟩)
  go_ret
  exact ⟨rfl, k, os, rfl⟩
set_option maxRecDepth 100000 in
theorem w_FormatUintP (u : Nat) (hu64 : u < 18446744073709551616) (w : World) (hp : Pow10 w) :
    Calls Tryz.prog 17 #[.int .u64 (u : Int), .int .i64 10] w fun e w' => e = .returned (.string ⟨(Lib.decDigits u).toArray⟩) ∧ ∃ k os, w' = grow (w.drewN k) os := by
  have hI := w_FormatUint u hu64 w hp
  go_enter Tryz.func17, Tryz.ntmps17
  go_wp2_with (go_at_call 38; refine hI.mono ?_; rintro e w' ⟨rfl, k, os, rfl⟩)
  go_ret
  exact ⟨rfl, k, os, rfl⟩
end Go.Proofs.YtcddajbcbkbipaaGreatDoor

namespace Go.Proofs.YtcddajbcbkbipaaGreatDoor
open Go Go.Shelf Go.RowKit

theorem c_lower (c : Int) (w : World) : Calls Tryz.prog 97 #[.int .u8 c] w fun e w' => e = .returned (.int .u8 (bits .or .u8 c 32)) ∧ w' = w := AnyPu.internal_strconv_lower { laysPu14 with } c w

set_option maxHeartbeats 32000000 in
set_option maxRecDepth 100000 in
/-- Of bytes that there are. -/
theorem w_Parse31I (t : ByteArray) (hne : t.size ≠ 0) (hmax : t.size ≤ 9223372036854775806) (w : World) :
    Calls Tryz.prog 94 #[.string t, .int .i64 10, .int .i64 31] w fun e w' => e = .returned (Lib.uintTupleM 143 2147483647 (Lib.parseUintM 2147483647 0 t.data.toList)) ∧ w' = Lib.bytesWorld w 5 t := by
  have hemp : t.toList.isEmpty = false := by
    rw [← decide_eq_emptyBytes]
    exact decide_eq_false (fun h => hne (by rw [h]; rfl))
  have hcv := Lib.run_convert_string_bytes (P := Tryz.prog) w 9 31 5 t (u := .string) Tryz.underlying9 Tryz.underlying31 Tryz.underlying5
  have hB : ∀ j, j < t.size → (Lib.bytesWorld w 5 t).cell? ⟨w.heap.size, j, none⟩ = some (.int .u8 (t.data.toList.getD j 0).toNat) := fun j hj => Lib.bytesWorld_cell w 5 t j hj
  obtain ⟨W1, hW1⟩ : ∃ W1, W1 = Lib.bytesWorld w 5 t := ⟨_, rfl⟩
  rw [← hW1] at hcv hB ⊢
  clear hW1
  obtain ⟨bs, hL⟩ : ∃ bs, bs = t.data.toList := ⟨_, rfl⟩
  have hLn : bs.length = t.size := by rw [hL, Lib.size_eq]
  rw [← hL] at hB ⊢
  clear hL
  have hmv : IntKind.u64.wrap (IntKind.u64.wrap 2147483648 - 1) = 2147483647 := by
    rw [IntKind.wrap_u64, IntKind.wrap_u64]
    decide
  go_enter Tryz.func94, Tryz.ntmps94
  go_wp2
  go_loop [12, 13, 101] (fun vu vn vi => ∃ (k acc : Nat) (a : Int), vu = .bool false ∧ vn = .int .u64 a ∧ vi = .int .i64 k ∧ k ≤ t.size ∧ Hid (a = (acc : Int) ∧ acc ≤ 2147483647 ∧ Lib.parseUintM 2147483647 0 bs = Lib.parseUintM 2147483647 acc (bs.drop k)))
    (fun _ _ vi => t.size - (intOf vi).toNat)
  case atStart => exact ⟨0, 0, 0, rfl, rfl, rfl, by omega, rfl, by omega, rfl⟩
  case round =>
    obtain ⟨k, acc, a, rfl, rfl, rfl, hk, hh⟩ := hrel
    obtain ⟨ha, hacc, hdec⟩ := hh.out
    clear hh
    have a0 : 0 ≤ a := by omega
    have a1 : a ≤ 2147483647 := by omega
    by_cases hkn : k < t.size
    · have hc := hB k hkn
      have hdrop : bs.drop k = bs[k]'(by omega) :: bs.drop (k + 1) := List.drop_eq_getElem_cons (by omega)
      have hget : bs.getD k 0 = bs[k]'(by omega) := by simp [List.getD, List.getElem?_eq_getElem (show k < bs.length by omega)]
      rw [hdrop] at hdec
      rw [hget] at hc
      generalize bs[k]'(by omega) = c at hc hdec
      have hc256 : c.toNat < 256 := c.toNat_lt
      clear hB hdrop hget
      by_cases hdig : 48 ≤ c.toNat ∧ c.toNat ≤ 57
      · obtain ⟨hd0, hd1⟩ := hdig
        have hcut : ¬ 1844674407370955162 ≤ acc := by omega
        by_cases hov : 2147483647 < acc * 10 + (c.toNat - 48)
        · have hF : Lib.parseUintM 2147483647 acc (c :: bs.drop (k + 1)) = .range := by simp [Lib.parseUintM, hd0, hd1, hcut, hov]
          rw [hF] at hdec
          have iov : 2147483647 < a * 10 + ((c.toNat : Int) - 48) := by omega
          clear hcut hacc hF hov ha
          go_wp2
          go_ret2
          exact ⟨rfl, rfl⟩
        · have hF : Lib.parseUintM 2147483647 acc (c :: bs.drop (k + 1)) = Lib.parseUintM 2147483647 (acc * 10 + (c.toNat - 48)) (bs.drop (k + 1)) := by simp [Lib.parseUintM, hd0, hd1, hcut, hov]
          have HN : Hid (a * 10 + ((c.toNat : Int) - 48) = ((acc * 10 + (c.toNat - 48) : Nat) : Int) ∧ acc * 10 + (c.toNat - 48) ≤ 2147483647 ∧ Lib.parseUintM 2147483647 0 bs = Lib.parseUintM 2147483647 (acc * 10 + (c.toNat - 48)) (bs.drop (k + 1))) := Lib.hid ⟨by omega, by omega, hdec.trans hF⟩
          have iov : a * 10 + ((c.toNat : Int) - 48) ≤ 2147483647 := by omega
          clear hcut hacc hF hov hdec ha
          go_wp2
          refine ⟨⟨k + 1, acc * 10 + (c.toNat - 48), a * 10 + ((c.toNat : Int) - 48), rfl, (by first | rfl | (congr 1; omega)), (by first | rfl | (congr 1; omega)), by omega, HN⟩, by simp [intOf]; omega⟩
      · have hF : Lib.parseUintM 2147483647 acc (c :: bs.drop (k + 1)) = Lib.parseUintB 1 [] := by simp [Lib.parseUintM, Lib.parseUintB, hdig]
        rw [hF] at hdec
        clear hacc hF ha
        have hv0 := bits_lo_u8 .or (c.toNat : Int) 32
        have hv1 := bits_hi_u8 .or (c.toNat : Int) 32
        have hu0 := bits_lo_u8 .or 95 32
        have hu1 := bits_hi_u8 .or 95 32
        go_wp2_with (go_at_call 97; refine (c_lower _ _).mono ?_; rintro e w' ⟨rfl, rfl⟩)
        all_goals go_ret2
        all_goals first | exact ⟨rfl, rfl⟩ | exact ⟨by rw [hdec]; rfl, rfl⟩
    · have hkk : k = t.size := by omega
      subst hkk
      have hF : Lib.parseUintM 2147483647 acc (bs.drop t.size) = .ok acc := by rw [List.drop_eq_nil_of_le (by omega)]; rfl
      rw [hF] at hdec
      subst ha
      clear hacc hF a0 a1
      go_wp2
      go_ret2
      exact ⟨rfl, rfl⟩

theorem w_Parse31 (t : ByteArray) (hmax : t.size ≤ 9223372036854775806) (w : World) :
    Calls Tryz.prog 94 #[.string t, .int .i64 10, .int .i64 31] w fun e w' => e = .returned (Lib.uintTupleM 143 2147483647 (Lib.parseUintB 31 t.data.toList)) ∧ (w' = w ∨ w' = Lib.bytesWorld w 5 t) := by
  by_cases h0 : t.size = 0
  · have ht : t = ⟨#[]⟩ := by
      apply ByteArray.ext
      exact Array.eq_empty_of_size_eq_zero h0
    subst ht
    exact (AnyPu.internal_strconv_ParseUint_empty (P := Tryz.prog) { laysPu14 with } 10 31 w).mono fun e w' ⟨he, hw⟩ => ⟨he, Or.inl hw⟩
  · have hne : t.data.toList ≠ [] := fun h => h0 (by rw [Lib.size_eq, h]; rfl)
    refine (w_Parse31I t h0 hmax w).mono fun e w' ⟨he, hw⟩ => ⟨?_, Or.inr hw⟩
    rw [he, Lib.parseUintB, if_neg hne]

theorem c_toErrorS (s : ByteArray) (bits : Int) (ev : Value) (w : World) (hs : s.size ≤ 281474976710656) (hv : w.cell? ⟨6, 0, none⟩ = some ev) (hev : ev = .nilIface ∨ ∃ te pe, ev = .iface te pe) :
    Calls Tryz.prog 95 #[.string ⟨#[80, 97, 114, 115, 101, 85, 105, 110, 116]⟩, .string s, .int .i64 10, .int .i64 bits, .iface 143 (.int .i64 2)] w fun e w' => ∃ t v, e = .returned (.iface t v) ∧ Below w.heap.size w w' :=
  (AnyPu.strconv_toError_syntax (P := Tryz.prog) { laysPu14 with } _ s 10 bits ev w hs hv hev).mono fun e w' ⟨_, h1, _, _, h4⟩ => ⟨_, _, h1, h4⟩
theorem c_toErrorR (s : ByteArray) (bits : Int) (ev : Value) (w : World) (hs : s.size ≤ 281474976710656) (hv : w.cell? ⟨7, 0, none⟩ = some ev) (hev : ev = .nilIface ∨ ∃ te pe, ev = .iface te pe) :
    Calls Tryz.prog 95 #[.string ⟨#[80, 97, 114, 115, 101, 85, 105, 110, 116]⟩, .string s, .int .i64 10, .int .i64 bits, .iface 143 (.int .i64 1)] w fun e w' => ∃ t v, e = .returned (.iface t v) ∧ Below w.heap.size w w' :=
  (AnyPu.strconv_toError_range (P := Tryz.prog) { laysPu14 with } _ s 10 bits ev w hs hv hev).mono fun e w' ⟨_, h1, _, _, h4⟩ => ⟨_, _, h1, h4⟩

/-- What the outcome is told as: the number, and whether there is an error. -/
def numEnd (M : Int) : Lib.NumEnd Nat → Int × Bool
  | .ok n => (n, false)
  | .range => (M, true)
  | _ => (0, true)
/-- An interface value that is nil, or isn't. -/
def IsErr (b : Bool) (v : Value) : Prop := if b then ∃ t x, v = .iface t x else v = .nilIface

set_option maxHeartbeats 8000000 in
set_option maxRecDepth 100000 in
theorem w_Parse (s : ByteArray) (bits : Nat) (M : Int) (hI : ∀ w : World, Calls Tryz.prog 94 #[.string s, .int .i64 10, .int .i64 (bits : Int)] w fun e w' => e = .returned (Lib.uintTupleM 143 M (Lib.parseUintB bits s.data.toList)) ∧ (w' = w ∨ w' = Lib.bytesWorld w 5 s))
    (hs : s.size ≤ 281474976710656) (w : World) (hv : ∃ t v, w.cell? ⟨6, 0, none⟩ = some (.iface t v)) (hv' : ∃ t v, w.cell? ⟨7, 0, none⟩ = some (.iface t v)) :
    Calls Tryz.prog 87 #[.string s, .int .i64 10, .int .i64 (bits : Int)] w fun e w' => ∃ y, e = .returned (.tuple #[.int .u64 (numEnd M (Lib.parseUintB bits s.data.toList)).1, y]) ∧ IsErr (numEnd M (Lib.parseUintB bits s.data.toList)).2 y ∧ Below w.heap.size w w' := by
  obtain ⟨ts, vs, hv⟩ := hv
  obtain ⟨tr, vr, hv'⟩ := hv'
  have hG : 6 < w.heap.size := Lib.lt_of_cell hv
  have hG' : 7 < w.heap.size := Lib.lt_of_cell hv'
  have hI := hI w
  have hbe : ∀ W1, (W1 = w ∨ W1 = Lib.bytesWorld w 5 s) → Below w.heap.size w W1 := by
    rintro W1 (rfl | rfl)
    · exact Below.refl _ _
    · exact Lib.bytesWorld_below _ _ _
  generalize Lib.parseUintB bits s.data.toList = r at hI ⊢
  cases r with
  | ok u =>
    have hI : Calls Tryz.prog 94 #[.string s, .int .i64 10, .int .i64 (bits : Int)] w fun e w' => e = .returned (.tuple #[.int .u64 u, .nilIface]) ∧ (w' = w ∨ w' = Lib.bytesWorld w 5 s) := hI
    go_enter Tryz.func87, Tryz.ntmps87
    go_wp2_with (go_at_call 94; refine hI.mono ?_; rintro e W1 ⟨rfl, hW⟩)
    go_wp2
    go_ret2
    exact ⟨_, rfl, rfl, hbe _ hW⟩
  | range =>
    have hI : Calls Tryz.prog 94 #[.string s, .int .i64 10, .int .i64 (bits : Int)] w fun e w' => e = .returned (.tuple #[.int .u64 M, .iface 143 (.int .i64 1)]) ∧ (w' = w ∨ w' = Lib.bytesWorld w 5 s) := hI
    go_enter Tryz.func87, Tryz.ntmps87
    go_wp2_with (go_at_call 94; refine hI.mono ?_)
    rintro e W1 ⟨rfl, hW⟩
    have hb1 := hbe _ hW
    have hv1 : W1.cell? ⟨7, 0, none⟩ = some (.iface tr vr) := (hb1.cell (show (⟨7, 0, none⟩ : Addr).block < w.heap.size from hG')).trans hv'
    clear hW
    go_wp2_with (go_at_call 95; refine (c_toErrorR s _ (.iface tr vr) _ hs ?_ (Or.inr ⟨_, _, rfl⟩)).mono ?_)
    · exact hv1
    rintro e W2 ⟨t, v, rfl, h3⟩
    go_wp2
    go_ret2
    exact ⟨_, rfl, ⟨_, _, rfl⟩, hb1.trans (h3.mono hb1.size)⟩
  | _ =>
    have hI : Calls Tryz.prog 94 #[.string s, .int .i64 10, .int .i64 (bits : Int)] w fun e w' => e = .returned (.tuple #[.int .u64 0, .iface 143 (.int .i64 2)]) ∧ (w' = w ∨ w' = Lib.bytesWorld w 5 s) := hI
    go_enter Tryz.func87, Tryz.ntmps87
    go_wp2_with (go_at_call 94; refine hI.mono ?_)
    rintro e W1 ⟨rfl, hW⟩
    have hb1 := hbe _ hW
    have hv1 : W1.cell? ⟨6, 0, none⟩ = some (.iface ts vs) := (hb1.cell (show (⟨6, 0, none⟩ : Addr).block < w.heap.size from hG)).trans hv
    clear hW
    go_wp2_with (go_at_call 95; refine (c_toErrorS s _ (.iface ts vs) _ hs ?_ (Or.inr ⟨_, _, rfl⟩)).mono ?_)
    · exact hv1
    rintro e W2 ⟨t, v, rfl, h3⟩
    go_wp2
    go_ret2
    exact ⟨_, rfl, ⟨_, _, rfl⟩, hb1.trans (h3.mono hb1.size)⟩
theorem w_Parse64I (t : ByteArray) (hmax : t.size ≤ 9223372036854775806) (w : World) :
    Calls Tryz.prog 94 #[.string t, .int .i64 10, .int .i64 64] w fun e w' => e = .returned (Lib.uintTupleM 143 18446744073709551615 (Lib.parseUintB 64 t.data.toList)) ∧ (w' = w ∨ w' = Lib.bytesWorld w 5 t) :=
  AnyPu.internal_strconv_ParseUint_10_at64 (P := Tryz.prog) { laysPu14 with } t hmax w
end Go.Proofs.YtcddajbcbkbipaaGreatDoor

namespace Go.Proofs.YtcddajbcbkbipaaGreatDoor
open Go Go.Shelf Go.RowKit

section
variable {I : Nat → Nat → Prop} {θ : Nat → Option (Nat × Nat)} {w w' : World}

theorem ownRel_nil (I : Nat → Nat → Prop) (θ : Nat → Option (Nat × Nat)) (w : World) : OwnRel I (look []) θ w :=
  ⟨(fun _ _ _ h => by cases h), (fun _ _ _ _ h => by cases h), (fun _ _ _ _ _ h => (h rfl).elim), (fun _ _ _ _ _ h => by cases h), (fun _ _ h => by cases h), (fun _ _ _ h => by cases h)⟩
theorem chg_below (hb : Below w.heap.size w w') (hval : ∀ b o, I b o → ∃ u, w.cell? ⟨b, o, none⟩ = some u) : Chg (look []) θ I w (look []) θ I w' :=
  have hcell : ∀ b o, I b o → w'.cell? ⟨b, o, none⟩ = w.cell? ⟨b, o, none⟩ := fun b o hi => by
    obtain ⟨u, hu⟩ := hval b o hi
    exact World.cell?_of_block (a := ⟨b, o, none⟩) (hb.block b (cell_lt hu))
  { imm := fun _ _ h => h, cell := hcell, le := fun _ _ h => (by cases h), rel := ownRel_nil _ _ _, valid := fun b o hi => by obtain ⟨u, hu⟩ := hval b o hi; exact ⟨u, (hcell b o hi).trans hu⟩,
    os := hb.os, tape := hb.tape, output := hb.output, grow := hb.size, frame := fun b hlt _ => hb.block b hlt, new := fun _ _ _ h => (h rfl).elim, immNew := fun _ _ h => .inl h }

/-- A function that owns nothing, and turns nothing that was there. -/
theorem spec_of_below {P : Program} {f : FuncId} {args : List AV} {res : AV} (hen : ∀ (zs : Array Value) (w : World), (callFunc f zs).run P w = .ok (.enter f zs) w)
    (h : ∀ (w : World) (I : Nat → Nat → Prop) (θ : Nat → Option (Nat × Nat)) (zs : Array Value), RepL I (look []) θ w zs.toList args → (∀ b o, I b o → ∃ u, w.cell? ⟨b, o, none⟩ = some u) → GOk I w →
      Calls P f zs w fun e w' => ∃ v, e = .returned v ∧ (∀ I θ, Rep I (look []) θ w' v res) ∧ Below w.heap.size w w') : Spec P f args [] res [] :=
  ⟨hen, fun w I θ zs hargs _ hval hglob => (h w I θ zs hargs hval hglob).mono fun e w' ⟨v, he, hr, hb⟩ => ⟨v, I, θ, he, chg_below hb hval, hr I θ⟩⟩

theorem repL_one {own : Nat → Option Own} {zs : Array Value} {x : AV} (h : RepL I own θ w zs.toList [x]) : ∃ v, zs = #[v] ∧ Rep I own θ w v x := by
  obtain ⟨l⟩ := zs
  cases h with
  | cons h1 h2 => cases h2; exact ⟨_, rfl, h1⟩
theorem repL_two {own : Nat → Option Own} {zs : Array Value} {x y : AV} (h : RepL I own θ w zs.toList [x, y]) : ∃ v u, zs = #[v, u] ∧ Rep I own θ w v x ∧ Rep I own θ w u y := by
  obtain ⟨l⟩ := zs
  cases h with
  | cons h1 h2 => cases h2 with
    | cons h3 h4 => cases h4; exact ⟨_, _, rfl, h1, h3⟩
theorem repL_three {own : Nat → Option Own} {zs : Array Value} {x y z : AV} (h : RepL I own θ w zs.toList [x, y, z]) : ∃ v u t, zs = #[v, u, t] ∧ Rep I own θ w v x ∧ Rep I own θ w u y ∧ Rep I own θ w t z := by
  obtain ⟨l⟩ := zs
  cases h with
  | cons h1 h2 => cases h2 with
    | cons h3 h4 => cases h4 with
      | cons h5 h6 => cases h6; exact ⟨_, _, _, rfl, h1, h3, h5⟩

/-- Bytes as numbers, and back. -/
def bytesL (l : List UInt8) : List Int := l.map fun b => (b.toNat : Int)
def toU8 (s : List Int) : List UInt8 := s.map fun x => UInt8.ofNat x.toNat
theorem bytesI_mk (l : List UInt8) : bytesI ⟨l.toArray⟩ = bytesL l := by simp [bytesI, bytesL]
theorem toU8_bytesI (b : ByteArray) : toU8 (bytesI b) = b.data.toList := by
  simp only [toU8, bytesI, List.map_map]
  conv => rhs; rw [← List.map_id b.data.toList]
  apply List.map_congr_left
  intro x _
  simp
theorem rep_bytes (l : List UInt8) {own : Nat → Option Own} : Rep I own θ w (.string ⟨l.toArray⟩) (.str (bytesL l)) := by
  rw [← bytesI_mk]
  exact .val _ _ (.str _)

/-- What is told of a variable's cell. -/
theorem GOk.at {I : Nat → Nat → Prop} (h : GOk I w) {g : Nat} {cells : List AV} (hg : globA g = some cells) (j : Nat) (hj : j < cells.length) : ∃ u, w.cell? ⟨g, j, none⟩ = some u ∧ RepV I w u (cells.getD j .any) := by
  have := h g cells hg
  obtain ⟨ad, us, he, hs, hI, hc, h1, hr⟩ := Rep.rptr_inv (own := look []) (θ := fun _ => none) (.val _ _ this)
  simp only [Value.pointer.injEq, Option.some.injEq] at he
  subst he
  refine ⟨us j, ?_, hr j hj⟩
  have := hc j hj
  simpa using this
theorem gl_pow : ∀ i, i < 20 → gl2.getD i 0 = ((10 ^ i : Nat) : Int) := by decide
theorem GOk.pow10 {I : Nat → Nat → Prop} (h : GOk I w) : Pow10 w := fun i hi => by
  obtain ⟨u, hu, hr⟩ := h.at (g := 2) (cells := ga2) rfl i (by show i < 20; exact hi)
  rw [hu]
  have e : ga2.getD i .any = .int .u64 ((10 ^ i : Nat) : Int) := by
    rw [← gl_pow i hi]
    have hl : i < gl2.length := hi
    simp [ga2, List.getD, hl]
  rw [e] at hr
  cases hr
  rfl
theorem GOk.err {I : Nat → Nat → Prop} (h : GOk I w) {g : Nat} (hg : globA g = some [.err true]) : ∃ t v, w.cell? ⟨g, 0, none⟩ = some (.iface t v) := by
  obtain ⟨u, hu, hr⟩ := h.at hg 0 (by decide)
  have hr : RepV I w u (.err true) := hr
  cases hr with
  | err1 t v => exact ⟨t, v, hu⟩
end

theorem below_grown (w : World) (k : Nat) (os : Array Obj) : Below w.heap.size w (Sort.grow (w.drewN k) os) := Lib.below_grow _ w (Nat.le_refl _) k os

noncomputable def x_Itoa (n : Int) : Option (List Int) := chk (0 ≤ n ∧ n < 9223372036854775808) (some (bytesL (Lib.decDigits n.toNat)))
theorem xok_Itoa (n : Int) (r : List Int) (h : x_Itoa n = some r) : Spec Tryz.prog 37 [.int .i64 n] [] (.str r) [] := by
  obtain ⟨⟨h0, h1⟩, h⟩ := chk_some h
  obtain rfl := Option.some.inj h
  refine spec_of_below (enters_of Tryz.func37 (by kernel_rfl) rfl) fun w I θ zs hargs hval hg => ?_
  obtain ⟨v, rfl, hv⟩ := repL_one hargs
  obtain rfl := hv.int_inv
  have := w_Itoa n.toNat (by omega) w hg.pow10
  rw [Int.toNat_of_nonneg h0] at this
  exact this.mono fun e w' ⟨he, k, os, hw⟩ => ⟨_, he, fun I θ => rep_bytes _, by rw [hw]; exact below_grown w k os⟩

noncomputable def x_FormatUint (n base : Int) : Option (List Int) := chk (base = 10 ∧ 0 ≤ n ∧ n < 18446744073709551616) (some (bytesL (Lib.decDigits n.toNat)))
theorem xok_FormatUint (n base : Int) (r : List Int) (h : x_FormatUint n base = some r) : Spec Tryz.prog 17 [.int .u64 n, .int .i64 base] [] (.str r) [] := by
  obtain ⟨⟨hb, h0, h1⟩, h⟩ := chk_some h
  obtain rfl := Option.some.inj h
  subst hb
  refine spec_of_below (enters_of Tryz.func17 (by kernel_rfl) rfl) fun w I θ zs hargs hval hg => ?_
  obtain ⟨v, u, rfl, hv, hu⟩ := repL_two hargs
  obtain rfl := hv.int_inv
  obtain rfl := hu.int_inv
  have := w_FormatUintP n.toNat (by omega) w hg.pow10
  rw [Int.toNat_of_nonneg h0] at this
  exact this.mono fun e w' ⟨he, k, os, hw⟩ => ⟨_, he, fun I θ => rep_bytes _, by rw [hw]; exact below_grown w k os⟩

noncomputable def x_ParseUint (s : List Int) (base bits : Int) : Option (Int × Bool) :=
  chk (base = 10 ∧ (bits = 31 ∨ bits = 64) ∧ (s.length : Int) ≤ 281474976710656) (some (numEnd (if bits = 31 then 2147483647 else 18446744073709551615) (Lib.parseUintB bits.toNat (toU8 s))))
theorem xok_ParseUint (s : List Int) (base bits : Int) (r : Int × Bool) (h : x_ParseUint s base bits = some r) : Spec Tryz.prog 87 [.str s, .int .i64 base, .int .i64 bits] [] (.tuple [.int .u64 r.1, .err r.2]) [] := by
  obtain ⟨⟨hb, hbits, hlen⟩, h⟩ := chk_some h
  obtain rfl := Option.some.inj h
  subst hb
  refine spec_of_below (enters_of Tryz.func87 (by kernel_rfl) rfl) fun w I θ zs hargs hval hg => ?_
  obtain ⟨v, u, t, rfl, hv, hu, ht⟩ := repL_three hargs
  obtain ⟨b, rfl, rfl⟩ := hv.str_inv
  obtain rfl := hu.int_inv
  obtain rfl := ht.int_inv
  have hsz : b.size ≤ 281474976710656 := by rw [bytesI_length] at hlen; omega
  have hfin : ∀ (M : Int) (r : Lib.NumEnd Nat), (Calls Tryz.prog 87 #[.string b, .int .i64 10, .int .i64 bits] w fun e w' => ∃ y, e = .returned (.tuple #[.int .u64 (numEnd M r).1, y]) ∧ IsErr (numEnd M r).2 y ∧ Below w.heap.size w w') →
      Calls Tryz.prog 87 #[.string b, .int .i64 10, .int .i64 bits] w fun e w' => ∃ v, e = .returned v ∧ (∀ I θ, Rep I (look []) θ w' v (.tuple [.int .u64 (numEnd M r).1, .err (numEnd M r).2])) ∧ Below w.heap.size w w' := fun M r hc =>
    hc.mono fun e w' ⟨y, he, hy, hbl⟩ => ⟨_, he, fun I θ => .tuple _ _ rfl (fun j hj => by
      match j, hj with
      | 0, _ => exact .val _ _ (.int _ _)
      | 1, _ =>
        show Rep I (look []) θ w' y (.err (numEnd M r).2)
        revert hy
        cases (numEnd M r).2 with
        | true => rintro ⟨t, x, rfl⟩; exact .val _ _ (.err1 t x)
        | false => intro hy; obtain rfl : y = .nilIface := hy; exact .val _ _ .err0), hbl⟩
  rw [toU8_bytesI]
  rcases hbits with rfl | rfl
  · exact hfin _ _ (w_Parse b 31 2147483647 (fun w => w_Parse31 b (by omega) w) hsz w (hg.err rfl) (hg.err rfl))
  · exact hfin _ _ (w_Parse b 64 18446744073709551615 (fun w => w_Parse64I b (by omega) w) hsz w (hg.err rfl) (hg.err rfl))

/-- Texts with another one between. -/
def joinI (xs : List (List Int)) (sep : List Int) : List Int := sep.intercalate xs
theorem join_bytes (l : List (List UInt8)) (s : List UInt8) : bytesL (Lib.join l s) = joinI (l.map bytesL) (bytesL s) := by
  unfold Lib.join joinI List.intercalate
  have e : ∀ (l : List (List UInt8)), (List.intersperse s l).map bytesL = List.intersperse (bytesL s) (l.map bytesL) := by
    intro l
    induction l with
    | nil => rfl
    | cons x l ih =>
      cases l with
      | nil => rfl
      | cons y l => simp only [List.intersperse, List.map_cons] at ih ⊢; rw [ih]
  rw [← e]
  simp only [bytesL, List.map_flatten]
  rfl
noncomputable def x_Join (xs : List (List Int)) (sep : List Int) : Option (List Int) := chk (xs.length ≤ 140737488355328 ∧ (joinI xs sep).length ≤ 140737488355328) (some (joinI xs sep))
theorem exists_bytes {I : Nat → Nat → Prop} {w : World} (xs : List (List Int)) (us : Nat → Value) (h : ∀ i, i < xs.length → RepV I w (us i) (.str (xs.getD i []))) :
    ∃ bs : List ByteArray, bs.map (fun b => bytesI b) = xs ∧ ∀ (i : Nat) b, bs[i]? = some b → us i = .string b := by
  induction xs generalizing us with
  | nil => exact ⟨[], rfl, fun i b hb => by simp at hb⟩
  | cons x xs ih =>
    obtain ⟨bs, h1, h2⟩ := ih (fun i => us (i + 1)) (fun i hi => by simpa using h (i + 1) (by simpa using hi))
    have h0 := h 0 (by simp)
    simp only [List.getD_cons_zero] at h0
    generalize hu : us 0 = u0 at h0
    cases h0 with
    | str s =>
      refine ⟨s :: bs, by simp [h1], fun i b hb => ?_⟩
      cases i with
      | zero => simp at hb; rw [hu, hb]
      | succ i => exact h2 i b (by simpa using hb)
theorem xok_Join (xs : List (List Int)) (sep : List Int) (r : List Int) (h : x_Join xs sep = some r) : Spec Tryz.prog 35 [AV.list 1 (fun x => [.str x]) ([] : List Int) xs .none, .str sep] [] (.str r) [] := by
  obtain ⟨⟨hn, hlen⟩, h⟩ := chk_some h
  obtain rfl := Option.some.inj h
  refine spec_of_below (enters_of Tryz.func35 (by kernel_rfl) rfl) fun w I θ zs hargs hval hg => ?_
  obtain ⟨v, u, rfl, hv, hu⟩ := repL_two hargs
  obtain ⟨sp, rfl, rfl⟩ := hu.str_inv
  obtain ⟨_, a, cap, us, rfl, hcap, hmax, hz, hnn, h1, hl, hr⟩ := hv.slice_val.slice_inv
  obtain ⟨bs, hb1, hb2⟩ := exists_bytes xs us (fun i hi => by simpa using hr i 0 hi (by omega))
  have hbl : bs.length = xs.length := by rw [← hb1, List.length_map]
  have hj : joinI xs (bytesI sp) = bytesL (Lib.join (bs.map (·.data.toList)) sp.data.toList) := by
    rw [join_bytes, ← hb1, List.map_map]
    rfl
  by_cases h0 : xs = []
  · subst h0
    have hbs : bs = [] := List.eq_nil_of_length_eq_zero (by simpa using hbl)
    subst hbs
    refine (Any.strings_Join_none (P := Tryz.prog) lays156 Builder_Extra_156 a cap sp w).mono fun e w' ⟨he, hw⟩ => ⟨_, he, fun I θ => ?_, by rw [hw]; exact Below.refl _ _⟩
    exact rep_bytes []
  · have hp : 0 < xs.length := List.length_pos_iff.2 h0
    obtain ⟨b, rfl, hs, hI, hc⟩ := hz hp
    obtain ⟨bb, bo, bsp⟩ := b
    simp only at hs hI hc
    subst hs
    have hc0 := hc 0 (by omega)
    have hcall := Any.strings_Join (P := Tryz.prog) lays156 Builder_Extra_156 bb bo cap bs sp w (fun j x hx => by
      have hjl : j < xs.length := by rw [← hbl]; exact (List.getElem?_eq_some_iff.1 hx).1
      rw [hc j (by omega), hb2 j x hx]) (cell_lt hc0) (by omega) (by omega) (by
        have : (joinI xs (bytesI sp)).length = (Lib.join (bs.map (·.data.toList)) sp.data.toList).length := by rw [hj, bytesL, List.length_map]
        omega)
    rw [hbl] at hcall
    refine hcall.mono fun e w' ⟨he, hw⟩ => ⟨_, he, fun I θ => ?_, hw⟩
    rw [hj]
    exact rep_bytes _

section
variable {I : Nat → Nat → Prop} {θ : Nat → Option (Nat × Nat)} {w w' : World} {own : Nat → Option Own}

/-- A row is written over. -/
theorem chg_row (hrel : OwnRel I own θ w) (hval : ∀ b o, I b o → ∃ u, w.cell? ⟨b, o, none⟩ = some u) {nm g c : Nat} {e : TypeId} {cells cells' : List AV} {vs vs' : Array Value} (hown : own nm = some (.row e cells)) (hg : θ nm = some (g, c)) (hh : w.heap[g]? = some (.cells vs e (0, 0)))
    (hc : CellsOK I own θ w vs' cells') : Chg own θ I w (ownUp own nm (.row e cells')) θ I (w.setRow g vs') := by
  obtain ⟨g', c', vs2, hg', hh', _, _, _, hnI⟩ := hrel.row nm e cells hown
  rw [hg] at hg'
  simp only [Option.some.injEq, Prod.mk.injEq] at hg'
  obtain ⟨rfl, rfl⟩ := hg'
  have hother : ∀ b, b ≠ g → (w.setRow g vs').heap[b]? = w.heap[b]? := fun b hb => setRow_other w g b _ hb
  have hcell : ∀ b j, I b j → (w.setRow g vs').cell? ⟨b, j, none⟩ = w.cell? ⟨b, j, none⟩ := fun b j hi => World.cell?_of_block (a := ⟨b, j, none⟩) (hother b (by rintro rfl; exact hnI j hi))
  have hle : ∀ nm' o, own nm' = some o → ∃ o', ownUp own nm (.row e cells') nm' = some o' ∧ OwnLe o (θ nm') o' (θ nm') := fun nm' o ho => by
    by_cases hne : nm' = nm
    · subst hne
      rw [hown] at ho
      obtain rfl := Option.some.inj ho
      exact ⟨.row e cells', by simp [ownUp], rfl, rfl⟩
    · exact ⟨o, by simp [ownUp, hne, ho], .refl _ _⟩
  have hmono : ∀ v x, Rep I own θ w v x → Rep I (ownUp own nm (.row e cells')) θ (w.setRow g vs') v x := fun v x h => h.mono (fun _ _ h => h) hcell hle
  refine { imm := fun _ _ h => h, cell := hcell, le := hle, rel := ?_, valid := fun b j hi => ?_, os := rfl, tape := rfl, output := rfl, grow := by simp, frame := fun b hb hn => hother b ?_,
           new := fun nm' g' c' ho hg' => ?_, immNew := fun b o h => .inl h }
  · refine ownRel_upd hrel (· = nm) hmono (fun nm' hne => ⟨by simp [ownUp, hne], rfl⟩) (fun nm' g' c' hne ho hg' => ⟨hother g' ?_, fun j h => h⟩) ?_ ?_ ?_ (fun _ _ h h' => h.trans h'.symm) (hobj' := fun _ _ h => h.mono (fun _ _ h => h) hcell)
    · rintro rfl
      exact hne (hrel.inj nm' nm _ _ _ ho (by simp [hown]) hg' hg)
    · rintro nm' e' cells2 rfl ho
      simp only [ownUp, if_true, Option.some.injEq, Own.row.injEq] at ho
      obtain ⟨rfl, rfl⟩ := ho
      exact ⟨g, c, _, hg, setRow_heap w g vs _ e _ hh, ⟨hc.size, hc.one, fun j hj => hmono _ _ (hc.rep j hj)⟩, hnI⟩
    · rintro nm' sz e' m rfl ho
      simp [ownUp] at ho
    · rintro nm' nm'' g' c1 c2 rfl hne _ ho' hg1 hg2
      exact hne (hrel.inj nm'' nm' _ _ _ ho' (by simp [hown]) hg2 hg1)
  · obtain ⟨u, hu⟩ := hval b j hi
    exact ⟨u, (hcell b j hi).trans hu⟩
  · rintro rfl
    exact hn nm c (by simp [hown]) hg
  · refine .inr ⟨nm', c', ?_, hg'⟩
    by_cases hne : nm' = nm
    · subst hne; simp [hown]
    · simpa [ownUp, hne] using ho
end

theorem enters_copyCheck : ∀ (zs : Array Value) (w : World), (callFunc 59 zs).run Tryz.prog w = .ok (.enter 59 zs) w := enters_of Tryz.func59 (by kernel_rfl) rfl
noncomputable def x_copyCheck (l : List Int) : Option (List Int) := some l
/-- A builder that nobody has written to yet. -/
theorem xok_copyCheckN (l r : List Int) (h : x_copyCheck l = some r) :
    Spec Tryz.prog 59 [.ptr 30000 0] [(30000, .row 52 [.nilp, AV.list 1 (fun x => [.int .u8 x]) (0 : Int) l (.own 37001)]), (37001, .tok 1 5 l.length)] (.tuple [])
      [(30000, .row 52 [.ptr 30000 0, AV.list 1 (fun x => [.int .u8 x]) (0 : Int) r (.own 37001)]), (37001, .tok 1 5 r.length)] := by
  obtain rfl := Option.some.inj h
  refine ⟨enters_copyCheck, fun w I θ zs hargs hrel hval hglob => ?_⟩
  generalize hx : AV.list 1 (fun x => [AV.int .u8 x]) (0 : Int) l (.own 37001) = x at *
  generalize ho : Own.tok 1 5 l.length = o at *
  obtain ⟨v, rfl, hv⟩ := repL_one hargs
  obtain ⟨e', cells', g, c, ho', hg, rfl⟩ := hv.ptr_inv
  have hown : look [(30000, Own.row 52 [.nilp, x]), (37001, o)] 30000 = some (.row 52 [.nilp, x]) := rfl
  obtain ⟨g', c', vs, hg', hh, hsz, h1, hrep, hnI⟩ := hrel.row 30000 _ _ hown
  rw [hg] at hg'
  simp only [Option.some.injEq, Prod.mk.injEq] at hg'
  obtain ⟨rfl, rfl⟩ := hg'
  have e0 : vs.getD 0 undef = .pointer none := (hrep 0 (by simp)).nilp_inv
  have hsz : vs.size = 2 := hsz
  have hc0 : w.cell? ⟨g, 0, none⟩ = some (.pointer none) := by rw [cell_of_row w g 0 vs _ (0, 0) hh, agetD_of (by omega), e0]
  refine (Any.Builder_copyCheck_fresh (P := Tryz.prog) { lays165 with } Builder_Extra_165.toX72 g w hc0 (by simp [World.shape?, hh, hsz]; rfl) (by simp [World.frozen?, hh])).mono fun e w' ⟨he, hw⟩ => ?_
  have hw : w' = w.setRow g (vs.setIfInBounds 0 (.pointer (some ⟨g, 0, none⟩))) := by rw [hw]; exact setCell_eq_setRow w g 0 vs _ (0, 0) _ hh
  have hc : CellsOK I (look [(30000, Own.row 52 [.nilp, x]), (37001, o)]) θ w (vs.setIfInBounds 0 (.pointer (some ⟨g, 0, none⟩))) [.ptr 30000 0, x] := by
    refine ⟨by simp [hsz], fun j hj => ?_, fun j hj => ?_⟩
    · match j, hj with
      | 0, _ => simp [Array.getD, hsz, Value.oneCell']
      | 1, _ => have := h1 1 (by simp); simpa [Array.getD, hsz] using this
    · match j, hj with
      | 0, _ =>
        have : (vs.setIfInBounds 0 (.pointer (some ⟨g, 0, none⟩))).getD 0 undef = .pointer (some ⟨g, 0, none⟩) := by simp [Array.getD, hsz]
        rw [this]
        exact .ptr 30000 0 _ _ g c hown hg
      | 1, _ =>
        have : (vs.setIfInBounds 0 (.pointer (some ⟨g, 0, none⟩))).getD 1 undef = vs.getD 1 undef := by simp [Array.getD, hsz]
        rw [this]
        exact hrep 1 (by simp)
  have k := chg_row hrel hval hown hg hh hc
  have eo : ownUp (look [(30000, Own.row 52 [.nilp, x]), (37001, o)]) 30000 (.row 52 [.ptr 30000 0, x]) = look [(30000, Own.row 52 [.ptr 30000 0, x]), (37001, o)] := by
    funext k
    simp only [ownUp, look]
    by_cases hk : k = 30000
    · subst hk; rfl
    · have : Nat.beq 30000 k = false := by cases hb : Nat.beq 30000 k with | false => rfl | true => exact absurd (Nat.eq_of_beq_eq_true hb).symm hk
      simp [hk, this]
  rw [eo] at k
  exact ⟨.tuple #[], I, θ, he, by rw [hw]; exact k, .tuple _ _ rfl (fun j hj => by simp at hj)⟩
/-- One that has been written to. -/
theorem xok_copyCheckP (l r : List Int) (h : x_copyCheck l = some r) :
    Spec Tryz.prog 59 [.ptr 30000 0] [(30000, .row 52 [.ptr 30000 0, AV.list 1 (fun x => [.int .u8 x]) (0 : Int) l (.own 37001)]), (37001, .tok 1 5 l.length)] (.tuple [])
      [(30000, .row 52 [.ptr 30000 0, AV.list 1 (fun x => [.int .u8 x]) (0 : Int) r (.own 37001)]), (37001, .tok 1 5 r.length)] := by
  obtain rfl := Option.some.inj h
  refine ⟨enters_copyCheck, fun w I θ zs hargs hrel hval hglob => ?_⟩
  generalize hx : AV.list 1 (fun x => [AV.int .u8 x]) (0 : Int) l (.own 37001) = x at *
  obtain ⟨v, rfl, hv⟩ := repL_one hargs
  obtain ⟨e', cells', g, c, ho', hg, rfl⟩ := hv.ptr_inv
  have hown : look [(30000, Own.row 52 [.ptr 30000 0, x]), (37001, Own.tok 1 5 l.length)] 30000 = some (.row 52 [.ptr 30000 0, x]) := rfl
  obtain ⟨g', c', vs, hg', hh, hsz, h1, hrep, hnI⟩ := hrel.row 30000 _ _ hown
  rw [hg] at hg'
  simp only [Option.some.injEq, Prod.mk.injEq] at hg'
  obtain ⟨rfl, rfl⟩ := hg'
  have e0 : vs.getD 0 undef = .pointer (some ⟨g, 0, none⟩) := by
    obtain ⟨_, _, g2, c2, _, hg2, he⟩ := (hrep 0 (by simp)).ptr_inv
    rw [hg] at hg2
    simp only [Option.some.injEq, Prod.mk.injEq] at hg2
    obtain ⟨rfl, rfl⟩ := hg2
    exact he
  have hsz : vs.size = 2 := hsz
  have hc0 : w.cell? ⟨g, 0, none⟩ = some (.pointer (some ⟨g, 0, none⟩)) := by rw [cell_of_row w g 0 vs _ (0, 0) hh, agetD_of (by omega), e0]
  refine (Any.Builder_copyCheck_used (P := Tryz.prog) { lays165 with } Builder_Extra_165.toX72 g w hc0).mono fun e w' ⟨he, hw⟩ => ?_
  rw [hw]
  exact ⟨.tuple #[], I, θ, he, .refl hrel hval, .tuple _ _ rfl (fun j hj => by simp at hj)⟩

section
variable {I : Nat → Nat → Prop} {θ : Nat → Option (Nat × Nat)} {w w' : World} {own : Nat → Option Own}

/-- The first elements of a token are frozen. -/
theorem chg_freeze (hrel : OwnRel I own θ w) (hval : ∀ b o, I b o → ∃ u, w.cell? ⟨b, o, none⟩ = some u) {nm g c m : Nat} {e : TypeId} (hown : own nm = some (.tok 1 e m)) (hg : θ nm = some (g, c)) :
    Chg own θ I w own θ I (w.freeze ⟨g, 0, none⟩ m) := by
  by_cases hm : m = 0
  · have : w.freeze ⟨g, 0, none⟩ m = w := by simp [World.freeze, hm]
    rw [this]
    exact .refl hrel hval
  obtain ⟨cur, fz, q1, q2, q3, q4, q5, q6⟩ := hrel.tok nm _ _ _ hown g c hg
  have hother : ∀ b, b ≠ g → (w.freeze ⟨g, 0, none⟩ m).heap[b]? = w.heap[b]? := fun b hb => by
    simp only [World.freeze, hm, if_false, Array.getElem?_modify]
    rw [if_neg (Ne.symm hb)]
  have hthis : ∃ fz', fz' ≤ m ∧ (w.freeze ⟨g, 0, none⟩ m).heap[g]? = some (.cells cur e (0, fz')) := by
    simp only [World.freeze, hm, if_false, Array.getElem?_modify, if_true, q1, Option.map_some]
    by_cases h0 : (0 : Nat) = fz
    · subst h0
      exact ⟨m, Nat.le_refl _, by simp⟩
    · refine ⟨max fz m, by omega, ?_⟩
      have : (0 == fz) = false := by simpa using h0
      simp [this]
  obtain ⟨fz', hfz, hthis⟩ := hthis
  have hcell : ∀ b o, I b o → (w.freeze ⟨g, 0, none⟩ m).cell? ⟨b, o, none⟩ = w.cell? ⟨b, o, none⟩ := fun b o _ => by
    by_cases hb : b = g
    · subst hb
      rw [cell_of_row _ _ _ cur e _ hthis, cell_of_row _ _ _ cur e _ q1]
    · exact World.cell?_of_block (a := ⟨b, o, none⟩) (hother b hb)
  have hmono : ∀ v x, Rep I own θ w v x → Rep I own θ (w.freeze ⟨g, 0, none⟩ m) v x := fun v x h => h.mono (fun _ _ h => h) hcell (fun _ o ho => ⟨o, ho, .refl _ _⟩)
  have hsz : (w.freeze ⟨g, 0, none⟩ m).heap.size = w.heap.size := by simp [World.freeze, hm]
  refine { imm := fun _ _ h => h, cell := hcell, le := fun _ o ho => ⟨o, ho, .refl _ _⟩, rel := ?_, valid := fun b o hi => ?_, os := ?_, tape := ?_, output := ?_, grow := by rw [hsz]; exact Nat.le_refl _, frame := fun b hb hn => hother b ?_,
           new := fun nm' g' c' ho hg' => .inr ⟨nm', c', ho, hg'⟩, immNew := fun b o h => .inl h }
  · refine ownRel_upd hrel (· = nm) hmono (fun nm' _ => ⟨rfl, rfl⟩) (fun nm' g' c' hne ho hg' => ⟨hother g' ?_, fun j h => h⟩) ?_ ?_ ?_ (fun _ _ h h' => h.trans h'.symm) (hobj' := fun _ _ h => h.mono (fun _ _ h => h) hcell) (harr := ?_) (hobj := ?_) (htok8 := ?_)
    · rintro rfl
      exact hne (hrel.inj nm' nm _ _ _ ho (by simp [hown]) hg' hg)
    · rintro nm' e' cells rfl ho
      rw [hown] at ho; cases ho
    · rintro nm' sz e' m' rfl ho g' c' hg'
      rw [hown] at ho
      simp only [Option.some.injEq, Own.tok.injEq] at ho
      obtain ⟨rfl, rfl, rfl⟩ := ho
      rw [hg] at hg'
      simp only [Option.some.injEq, Prod.mk.injEq] at hg'
      obtain ⟨rfl, rfl⟩ := hg'
      exact ⟨cur, fz', hthis, q2, q3, q4, by omega, q6⟩
    · rintro nm' nm'' g' c1 c2 rfl hne _ ho' hg1 hg2
      exact hne (hrel.inj nm'' nm' _ _ _ ho' (by simp [hown]) hg2 hg1)
    · rintro nm' sz e' m' f rfl ho
      rw [hown] at ho; cases ho
    · rintro nm' x rfl ho
      rw [hown] at ho; cases ho
    · rintro nm' sz m' rfl ho hn
      rw [hg] at hn; cases hn
  · obtain ⟨u, hu⟩ := hval b o hi
    exact ⟨u, (hcell b o hi).trans hu⟩
  · simp [World.freeze, hm]
  · simp [World.freeze, hm]
  · simp [World.freeze, hm]
  · rintro rfl
    exact hn nm c (by simp [hown]) hg
theorem chg_drew (hrel : OwnRel I own θ w) (hval : ∀ b o, I b o → ∃ u, w.cell? ⟨b, o, none⟩ = some u) : Chg own θ I w own θ I w.drew :=
  have hmono : ∀ v x, Rep I own θ w v x → Rep I own θ w.drew v x := fun v x h => h.mono (fun _ _ h => h) (fun _ _ _ => rfl) (fun _ o ho => ⟨o, ho, .refl _ _⟩)
  { imm := fun _ _ h => h, cell := fun _ _ _ => rfl, le := fun _ o ho => ⟨o, ho, .refl _ _⟩,
    rel := ⟨fun nm e cells ho => by
              obtain ⟨g, c, vs, r1, r2, r3, r4, r5, r6⟩ := hrel.row nm e cells ho
              exact ⟨g, c, vs, r1, r2, r3, r4, fun j hj => hmono _ _ (r5 j hj), r6⟩, hrel.tok, hrel.inj,
            fun nm sz e m f ho => arr_map (hrel.arr nm sz e m f ho) rfl (fun _ _ _ => rfl) (fun _ _ _ _ h => h) (fun _ _ => rfl) (fun v i j _ _ hv => hmono _ _ hv),
            fun nm x ho => obj_map (hrel.obj nm x ho) rfl (fun _ _ _ => rfl) (fun _ _ _ _ h => h) (fun _ h => h.mono (fun _ _ h => h) (fun _ _ _ => rfl)), hrel.tok8⟩,
    valid := hval, os := rfl, tape := rfl, output := rfl, grow := Nat.le_refl _, frame := fun _ _ _ => rfl, new := fun nm g c ho hg => .inr ⟨nm, c, ho, hg⟩, immNew := fun _ _ h => .inl h }
end

set_option maxHeartbeats 2000000 in
set_option maxRecDepth 100000 in
/-- A builder's bytes as a string. -/
theorem w_String (g b cap : Nat) (p : Value) (cur : Array Value) (fz : Nat × Nat) (l : List UInt8) (h0 : l ≠ []) (w : World) (hbk : w.heap[b]? = some (.cells #[p, .slice (some ⟨g, 0, none⟩) l.length cap] 52 (0, 0)))
    (hg : w.heap[g]? = some (.cells cur 5 fz)) (hlc : l.length ≤ cur.size) (hcap : cap ≠ 0) (h63 : l.length ≤ 9223372036854775807) (hcell : ∀ j x, l[j]? = some x → w.cell? ⟨g, j, none⟩ = some (.int .u8 (x.toNat : Int))) :
    Calls Tryz.prog 18 #[.pointer (some ⟨b, 0, none⟩)] w fun e w' => e = .returned (.string ⟨l.toArray⟩) ∧ w' = w.drew.freeze ⟨g, 0, none⟩ l.length := by
  have c1 : w.drew.cell? ⟨b, 1, none⟩ = some (.slice (some ⟨g, 0, none⟩) l.length cap) := by
    have : w.drew.heap[b]? = some (.cells #[p, .slice (some ⟨g, 0, none⟩) l.length cap] 52 (0, 0)) := hbk
    rw [Lib.cell_of_heap this]; rfl
  have hSD : (Builtin.unsafeSliceData_ #[31] 87 #[.slice (some ⟨g, 0, none⟩) l.length cap]).run Tryz.prog w.drew = .ok (.pointer (some ⟨g, 0, none⟩)) w.drew :=
    Lib.run_unsafeSliceData_row _ _ _ _ _ _ hcap
  have hUS : (Builtin.unsafeString_ #[87, 3] 9 #[.pointer (some ⟨g, 0, none⟩), .int .i64 l.length]).run Tryz.prog w.drew = .ok (.string ⟨l.toArray⟩) (w.drew.freeze ⟨g, 0, none⟩ l.length) := by
    refine Lib.run_unsafeString_row w.drew 87 3 9 5 Tryz.underlying87 (by kernel_rfl) g cur.size (by have hg' : w.drew.heap[g]? = some (.cells cur 5 fz) := hg; simp [World.shape?, hg']) l h0 hlc h63 ?_
    intro j x hx
    rw [Lib.add_plain, Nat.zero_add]
    exact hcell j x hx
  generalize w.drew.freeze ⟨g, 0, none⟩ l.length = W2 at hUS ⊢
  clear hbk hg hcell
  go_enter Tryz.func18, Tryz.ntmps18
  go_wp2
  go_region
  all_goals (go_wp2; go_ret; exact ⟨rfl, rfl⟩)

theorem u8_back {x : Int} (h0 : 0 ≤ x) (h1 : x < 256) : ((UInt8.ofNat x.toNat).toNat : Int) = x := by
  have : x.toNat < 256 := by omega
  simp [Nat.mod_eq_of_lt this]
  omega
theorem toU8_back {l : List Int} (h : ∀ x ∈ l, 0 ≤ x ∧ x < 256) : bytesL (toU8 l) = l := by
  simp only [bytesL, toU8, List.map_map]
  conv => rhs; rw [← List.map_id l]
  apply List.map_congr_left
  intro x hx
  obtain ⟨h0, h1⟩ := h x hx
  exact u8_back h0 h1
noncomputable def x_String (l : List Int) : Option (List Int × List Int) := chk (l ≠ [] ∧ ∀ x ∈ l, 0 ≤ x ∧ x < 256) (some (l, l))
theorem xok_String (l : List Int) (r : List Int × List Int) (h : x_String l = some r) :
    Spec Tryz.prog 18 [.ptr 30000 0] [(30000, .row 52 [.ptr 30000 0, AV.list 1 (fun x => [.int .u8 x]) (0 : Int) l (.own 37001)]), (37001, .tok 1 5 l.length)] (.str r.1)
      [(30000, .row 52 [.ptr 30000 0, AV.list 1 (fun x => [.int .u8 x]) (0 : Int) r.2 (.own 37001)]), (37001, .tok 1 5 r.2.length)] := by
  obtain ⟨⟨h0, hb⟩, h⟩ := chk_some h
  obtain rfl := Option.some.inj h
  refine ⟨enters_of Tryz.func18 (by kernel_rfl) rfl, fun w I θ zs hargs hrel hval hglob => ?_⟩
  obtain ⟨v, rfl, hv⟩ := repL_one hargs
  obtain ⟨e', cells', g, c, ho', hg, rfl⟩ := hv.ptr_inv
  have hown : look [(30000, Own.row 52 [.ptr 30000 0, AV.list 1 (fun x => [.int .u8 x]) (0 : Int) l (.own 37001)]), (37001, Own.tok 1 5 l.length)] 30000 = some (.row 52 [.ptr 30000 0, AV.list 1 (fun x => [.int .u8 x]) (0 : Int) l (.own 37001)]) := rfl
  have htok : look [(30000, Own.row 52 [.ptr 30000 0, AV.list 1 (fun x => [.int .u8 x]) (0 : Int) l (.own 37001)]), (37001, Own.tok 1 5 l.length)] 37001 = some (.tok 1 5 l.length) := rfl
  obtain ⟨g', c', vs, hg', hh, hsz, h1, hrep, hnI⟩ := hrel.row 30000 _ _ hown
  rw [hg] at hg'
  simp only [Option.some.injEq, Prod.mk.injEq] at hg'
  obtain ⟨rfl, rfl⟩ := hg'
  have hsz : vs.size = 2 := hsz
  have hr1 : Rep I _ θ w (vs.getD 1 undef) (AV.list 1 (fun x => [.int .u8 x]) (0 : Int) l (.own 37001)) := hrep 1 (by simp)
  unfold AV.list at hr1
  obtain ⟨ad, cap, hv1, hθ⟩ := hr1.own_inv htok
  have hlp : 0 < l.length := List.length_pos_iff.2 h0
  have hV := hr1.slice_val
  rw [hv1] at hV
  obtain ⟨_, ad2, cap2, us, he2, hcap, hmax, hz, hnn, ho1, hl, hr⟩ := hV.slice_inv
  simp only [Value.slice.injEq, true_and] at he2
  obtain ⟨rfl, rfl⟩ := he2
  obtain ⟨bb, hbb, hs, hI, hc⟩ := hz hlp
  cases hθt : θ 37001 with
  | none =>
    have := hrel.tok8 37001 1 l.length htok hθt
    omega
  | some gc =>
    obtain ⟨gb, cb⟩ := gc
    rw [hθt] at hθ
    simp only at hθ
    obtain ⟨hab, rfl⟩ := hθ
    rw [hab] at hbb
    simp only [Option.some.injEq] at hbb
    subst hbb
    obtain ⟨cur, fz, q1, q2, q3, q4, q5, q6⟩ := hrel.tok 37001 _ _ _ htok gb cap hθt
    have hvs : vs = #[vs.getD 0 undef, .slice (some ⟨gb, 0, none⟩) (toU8 l).length cap] := by
      apply Array.ext
      · simp [hsz]
      · intro i h1' h2'
        match i, h1' with
        | 0, _ => simp [Array.getD, hsz]
        | 1, _ =>
          have : vs.getD 1 undef = vs[1] := by simp [Array.getD, hsz]
          simp [← this, hv1, hab, toU8]
        | i + 2, h1' => omega
    have hlen8 : (toU8 l).length = l.length := by simp [toU8]
    rw [hvs] at hh
    refine (w_String gb g cap _ cur (0, fz) (toU8 l) (by intro hn; apply h0; simpa [toU8] using hn) w hh q1 (by omega) (by omega) (by unfold maxLen at hmax; omega) (fun j x hx => ?_)).mono fun e w' ⟨he, hw⟩ => ?_
    · have hj : j < l.length := by rw [← hlen8]; exact (List.getElem?_eq_some_iff.1 hx).1
      have hcj := hc j (by omega)
      simp only [Nat.zero_add] at hcj
      rw [hcj]
      have hrj := hr j 0 hj (by omega)
      simp only [Nat.mul_one, Nat.add_zero, List.getD_cons_zero] at hrj
      generalize us j = u at hrj
      cases hrj
      have hxl : x = UInt8.ofNat (l.getD j 0).toNat := by
        simp only [toU8, List.getElem?_map, List.getElem?_eq_getElem hj, Option.map_some, Option.some.injEq] at hx
        rw [← hx]
        simp [List.getD, hj]
      have hbj := hb (l.getD j 0) (by rw [List.getD, List.getElem?_eq_getElem hj]; exact List.getElem_mem _)
      subst hxl
      rw [u8_back hbj.1 hbj.2]
    · have k1 := chg_drew hrel hval
      have k2 := chg_freeze k1.rel k1.valid htok hθt
      refine ⟨_, I, θ, he, by rw [hw, hlen8]; exact k1.trans k2, ?_⟩
      have := rep_bytes (I := I) (θ := θ) (w := w') (own := look [(30000, Own.row 52 [.ptr 30000 0, AV.list 1 (fun x => [.int .u8 x]) (0 : Int) l (.own 37001)]), (37001, Own.tok 1 5 l.length)]) (toU8 l)
      rw [toU8_back hb] at this
      exact this
end Go.Proofs.YtcddajbcbkbipaaGreatDoor
