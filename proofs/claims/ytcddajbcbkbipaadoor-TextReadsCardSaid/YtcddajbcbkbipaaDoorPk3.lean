/-
  The machine, the program's functions and the laws' arithmetic: part 3 of 6.
-/
import Derived.Test.YtcddajbcbkbipaaDoorPk2
import Derived.BigCall
import Derived.BigGuard
import Derived.Laws.Closers25
import Derived.Laws.Closers25b
import Derived.Laws.Strings3
import Derived.Lib.AppendIntMem
import Derived.Lib.ConvBytes
import Derived.Lib.Hide
import Derived.Lib.ParseIntBMem
import Derived.Lib.UnsafeStr
import Derived.Shelf.LaysM
import Derived.Shelf.Pu.ErrVarParseUint
import Derived.Shelf.Pu.ParseUintPublic10
import Derived.Shelf.Strconv.Itoa3
import Derived.Shelf.Strings.OnBuilder
import Derived.Test.YtcddajbcbkbipaaDoorProg
import Derived.WalkKit
namespace Go.Proofs.YtcddajbcbkbipaaDoor
open Go Go.Shelf
def lays165_ren : Go.Shelf.Ren := ⟨fun | 165 => 64 | 240 => 63 | 241 => 78 | 276 => 77 | 277 => 87 | n => n, fun | 70 => 54 | 3 => 3 | 0 => 0 | 4 => 4 | 9 => 9 | 20 => 20 | 72 => 56 | 37 => 39 | 164 => 112 | 5 => 5 | n => n, fun | n => n⟩
theorem lays165 : Go.Proofs.Lays.n165 Tryd.prog lays165_ren := {
  mixed := by kernel_rfl
  f165 := Tryd.func64.trans (congrArg some (by kernel_rfl))
  f240 := Tryd.func63.trans (congrArg some (by kernel_rfl))
  f241 := Tryd.func78.trans (congrArg some (by kernel_rfl))
  f276 := Tryd.func77.trans (congrArg some (by kernel_rfl))
  f277 := Tryd.func87.trans (congrArg some (by kernel_rfl))
  t0 := Tryd.underlying0
  a0 := Tryd.isAgg0
  z0 := Tryd.sizeOf0
  v0 := Tryd.zeroValue0
  t3 := Tryd.underlying3
  a3 := Tryd.isAgg3
  z3 := Tryd.sizeOf3
  v3 := Tryd.zeroValue3
  t4 := Tryd.underlying4
  a4 := Tryd.isAgg4
  z4 := Tryd.sizeOf4
  v4 := Tryd.zeroValue4
  t9 := Tryd.underlying9
  a9 := Tryd.isAgg9
  z9 := Tryd.sizeOf9
  v9 := Tryd.zeroValue9
  t20 := Tryd.underlying20
  a20 := Tryd.isAgg20
  z20 := Tryd.sizeOf20
  v20 := Tryd.zeroValue20
  t37 := Tryd.underlying39
  a37 := Tryd.isAgg39
  z37 := Tryd.sizeOf39
  v37 := Tryd.zeroValue39
  t70 := Tryd.underlying54
  a70 := Tryd.isAgg54
  z70 := Tryd.sizeOf54
  v70 := Tryd.zeroValue54
  t72 := Tryd.underlying56
  a72 := Tryd.isAgg56
  z72 := Tryd.sizeOf56
  v72 := Tryd.zeroValue56
  t164 := Tryd.underlying112
  a164 := Tryd.isAgg112
  z164 := Tryd.sizeOf112
  v164 := Tryd.zeroValue112 }
theorem Builder_Extra_165 : Builder.Extra Tryd.prog lays165_ren := {
  sizeBuilder := by kernel_rfl
  liesBuilder := by kernel_rfl
  t5 := Tryd.underlying5
  a5 := Tryd.isAgg5
  z5 := Tryd.sizeOf5
  v5 := Tryd.zeroValue5
  infoByte := by kernel_rfl
  cellsByte := by kernel_rfl
  sizeByte := by kernel_rfl
  neB5 := by decide }
def lays156_ren : Go.Shelf.Ren := ⟨fun | 156 => 46 | 165 => 64 | 166 => 45 | 169 => 25 | 240 => 63 | 241 => 78 | 276 => 77 | 277 => 87 | n => n, fun | 31 => 36 | 9 => 9 | 3 => 3 | 4 => 4 | 0 => 0 | 20 => 20 | 72 => 56 | 76 => 86 | 70 => 54 | 37 => 39 | 75 => 85 | 127 => 90 | 164 => 112 | 5 => 5 | 80 => 63 | n => n, fun | n => n⟩
theorem lays156 : Go.Proofs.Lays.n156 Tryd.prog lays156_ren := {
  mixed := by kernel_rfl
  f156 := Tryd.func46.trans (congrArg some (by kernel_rfl))
  f165 := Tryd.func64.trans (congrArg some (by kernel_rfl))
  f166 := Tryd.func45.trans (congrArg some (by kernel_rfl))
  f169 := Tryd.func25.trans (congrArg some (by kernel_rfl))
  f240 := Tryd.func63.trans (congrArg some (by kernel_rfl))
  f241 := Tryd.func78.trans (congrArg some (by kernel_rfl))
  f276 := Tryd.func77.trans (congrArg some (by kernel_rfl))
  f277 := Tryd.func87.trans (congrArg some (by kernel_rfl))
  t0 := Tryd.underlying0
  a0 := Tryd.isAgg0
  z0 := Tryd.sizeOf0
  v0 := Tryd.zeroValue0
  t3 := Tryd.underlying3
  a3 := Tryd.isAgg3
  z3 := Tryd.sizeOf3
  v3 := Tryd.zeroValue3
  t4 := Tryd.underlying4
  a4 := Tryd.isAgg4
  z4 := Tryd.sizeOf4
  v4 := Tryd.zeroValue4
  t9 := Tryd.underlying9
  a9 := Tryd.isAgg9
  z9 := Tryd.sizeOf9
  v9 := Tryd.zeroValue9
  t20 := Tryd.underlying20
  a20 := Tryd.isAgg20
  z20 := Tryd.sizeOf20
  v20 := Tryd.zeroValue20
  t31 := Tryd.underlying36
  a31 := Tryd.isAgg36
  z31 := Tryd.sizeOf36
  v31 := Tryd.zeroValue36
  t37 := Tryd.underlying39
  a37 := Tryd.isAgg39
  z37 := Tryd.sizeOf39
  v37 := Tryd.zeroValue39
  t70 := Tryd.underlying54
  a70 := Tryd.isAgg54
  z70 := Tryd.sizeOf54
  v70 := Tryd.zeroValue54
  t72 := Tryd.underlying56
  a72 := Tryd.isAgg56
  z72 := Tryd.sizeOf56
  v72 := Tryd.zeroValue56
  t75 := Tryd.underlying85
  a75 := Tryd.isAgg85
  z75 := Tryd.sizeOf85
  v75 := Tryd.zeroValue85
  t76 := Tryd.underlying86
  a76 := Tryd.isAgg86
  z76 := Tryd.sizeOf86
  v76 := Tryd.zeroValue86
  t127 := Tryd.underlying90
  a127 := Tryd.isAgg90
  z127 := Tryd.sizeOf90
  v127 := Tryd.zeroValue90
  t164 := Tryd.underlying112
  a164 := Tryd.isAgg112
  z164 := Tryd.sizeOf112
  v164 := Tryd.zeroValue112 }
theorem Builder_Extra_156 : Builder.Extra Tryd.prog lays156_ren := {
  sizeBuilder := by kernel_rfl
  liesBuilder := by kernel_rfl
  t5 := Tryd.underlying5
  a5 := Tryd.isAgg5
  z5 := Tryd.sizeOf5
  v5 := Tryd.zeroValue5
  infoByte := by kernel_rfl
  cellsByte := by kernel_rfl
  sizeByte := by kernel_rfl
  neB5 := by decide }
def laysM171_ren : Go.Shelf.Ren := ⟨fun | 171 => 48 | 243 => 65 | 246 => 79 | 283 => 66 | 284 => 67 | 285 => 68 | 286 => 69 | 129 => 81 | 317 => 80 | 318 => 82 | 319 => 83 | 320 => 84 | 337 => 88 | 338 => 89 | n => n, fun | 3 => 3 | 9 => 9 | 2 => 2 | 4 => 4 | 171 => 101 | 0 => 0 | 53 => 41 | 37 => 39 | 5 => 5 | 173 => 104 | 212 => 117 | 51 => 118 | 20 => 20 | 213 => 119 | 46 => 120 | 232 => 127 | 233 => 128 | n => n, fun | 17 => 2 | 18 => 4 | 19 => 5 | n => n⟩
theorem laysM171 : Go.Proofs.LaysM.n171 Tryd.prog laysM171_ren := {
  mixed := by kernel_rfl
  f129 := Tryd.func81.trans (congrArg some (by kernel_rfl))
  f171 := Tryd.func48.trans (congrArg some (by kernel_rfl))
  f243 := Tryd.func65.trans (congrArg some (by kernel_rfl))
  f246 := Tryd.func79.trans (congrArg some (by kernel_rfl))
  f283 := Tryd.func66.trans (congrArg some (by kernel_rfl))
  f284 := Tryd.func67.trans (congrArg some (by kernel_rfl))
  f285 := Tryd.func68.trans (congrArg some (by kernel_rfl))
  f286 := Tryd.func69.trans (congrArg some (by kernel_rfl))
  f317 := Tryd.func80.trans (congrArg some (by kernel_rfl))
  f318 := Tryd.func82.trans (congrArg some (by kernel_rfl))
  f319 := Tryd.func83.trans (congrArg some (by kernel_rfl))
  f320 := Tryd.func84.trans (congrArg some (by kernel_rfl))
  f337 := Tryd.func88.trans (congrArg some (by kernel_rfl))
  f338 := Tryd.func89.trans (congrArg some (by kernel_rfl))
  t0 := Tryd.underlying0
  a0 := Tryd.isAgg0
  z0 := Tryd.sizeOf0
  v0 := Tryd.zeroValue0
  t2 := Tryd.underlying2
  a2 := Tryd.isAgg2
  z2 := Tryd.sizeOf2
  v2 := Tryd.zeroValue2
  t3 := Tryd.underlying3
  a3 := Tryd.isAgg3
  z3 := Tryd.sizeOf3
  v3 := Tryd.zeroValue3
  t4 := Tryd.underlying4
  a4 := Tryd.isAgg4
  z4 := Tryd.sizeOf4
  v4 := Tryd.zeroValue4
  t5 := Tryd.underlying5
  a5 := Tryd.isAgg5
  z5 := Tryd.sizeOf5
  v5 := Tryd.zeroValue5
  t9 := Tryd.underlying9
  a9 := Tryd.isAgg9
  z9 := Tryd.sizeOf9
  v9 := Tryd.zeroValue9
  t20 := Tryd.underlying20
  a20 := Tryd.isAgg20
  z20 := Tryd.sizeOf20
  v20 := Tryd.zeroValue20
  t37 := Tryd.underlying39
  a37 := Tryd.isAgg39
  z37 := Tryd.sizeOf39
  v37 := Tryd.zeroValue39
  t46 := Tryd.underlying120
  a46 := Tryd.isAgg120
  z46 := Tryd.sizeOf120
  v46 := Tryd.zeroValue120
  t51 := Tryd.underlying118
  a51 := Tryd.isAgg118
  z51 := Tryd.sizeOf118
  v51 := Tryd.zeroValue118
  t53 := Tryd.underlying41
  a53 := Tryd.isAgg41
  z53 := Tryd.sizeOf41
  v53 := Tryd.zeroValue41
  t171 := Tryd.underlying101
  a171 := Tryd.isAgg101
  z171 := Tryd.sizeOf101
  v171 := Tryd.zeroValue101
  t173 := Tryd.underlying104
  a173 := Tryd.isAgg104
  z173 := Tryd.sizeOf104
  v173 := Tryd.zeroValue104
  t212 := Tryd.underlying117
  a212 := Tryd.isAgg117
  z212 := Tryd.sizeOf117
  v212 := Tryd.zeroValue117
  t213 := Tryd.underlying119
  a213 := Tryd.isAgg119
  z213 := Tryd.sizeOf119
  t232 := Tryd.underlying127
  a232 := Tryd.isAgg127
  z232 := Tryd.sizeOf127
  v232 := Tryd.zeroValue127
  t233 := Tryd.underlying128
  a233 := Tryd.isAgg128
  z233 := Tryd.sizeOf128
  v233 := Tryd.zeroValue128
  g17 := by kernel_rfl
  g18 := by kernel_rfl
  g19 := by kernel_rfl
  i0 := by kernel_rfl
  i2 := by kernel_rfl
  i3 := by kernel_rfl
  i4 := by kernel_rfl
  i5 := by kernel_rfl
  i9 := by kernel_rfl
  i20 := by kernel_rfl
  i37 := by kernel_rfl
  i46 := by kernel_rfl
  i51 := by kernel_rfl
  i53 := by kernel_rfl
  i171 := by kernel_rfl
  i173 := by kernel_rfl
  i212 := by kernel_rfl
  i232 := by kernel_rfl
  i233 := by kernel_rfl
  m17 := by kernel_rfl
  m18 := by kernel_rfl
  m19 := by kernel_rfl }
def laysPu14_ren : Go.Shelf.Ren := ⟨fun | 14 => 85 | 16 => 90 | 17 => 91 | 19 => 92 | 20 => 93 | 21 => 94 | 22 => 95 | 23 => 96 | 24 => 97 | 25 => 98 | 27 => 48 | 26 => 99 | 28 => 65 | 29 => 79 | 30 => 66 | 31 => 67 | 32 => 68 | 33 => 69 | 35 => 81 | 34 => 80 | 36 => 82 | 37 => 83 | 38 => 84 | 39 => 88 | 40 => 89 | n => n, fun | 9 => 9 | 3 => 3 | 22 => 41 | 24 => 85 | 25 => 122 | 4 => 4 | 34 => 129 | 5 => 5 | 36 => 120 | 37 => 39 | 0 => 0 | 39 => 132 | 21 => 21 | 44 => 137 | 47 => 90 | 50 => 141 | 48 => 139 | 2 => 2 | 52 => 101 | 55 => 104 | 59 => 117 | 60 => 118 | 20 => 20 | 61 => 119 | 65 => 127 | 66 => 128 | 67 => 63 | n => n, fun | 0 => 6 | 1 => 7 | 2 => 2 | 3 => 4 | 4 => 5 | n => n⟩
theorem laysPu14 : Go.Proofs.LaysPu.n14 Tryd.prog laysPu14_ren := {
  mixed := by kernel_rfl
  f14 := Tryd.func85.trans (congrArg some (by kernel_rfl))
  f16 := Tryd.func90.trans (congrArg some (by kernel_rfl))
  f17 := Tryd.func91.trans (congrArg some (by kernel_rfl))
  f19 := Tryd.func92.trans (congrArg some (by kernel_rfl))
  f20 := Tryd.func93.trans (congrArg some (by kernel_rfl))
  f21 := Tryd.func94.trans (congrArg some (by kernel_rfl))
  f22 := Tryd.func95.trans (congrArg some (by kernel_rfl))
  f23 := Tryd.func96.trans (congrArg some (by kernel_rfl))
  f24 := Tryd.func97.trans (congrArg some (by kernel_rfl))
  f25 := Tryd.func98.trans (congrArg some (by kernel_rfl))
  f26 := Tryd.func99.trans (congrArg some (by kernel_rfl))
  f27 := Tryd.func48.trans (congrArg some (by kernel_rfl))
  f28 := Tryd.func65.trans (congrArg some (by kernel_rfl))
  f29 := Tryd.func79.trans (congrArg some (by kernel_rfl))
  f30 := Tryd.func66.trans (congrArg some (by kernel_rfl))
  f31 := Tryd.func67.trans (congrArg some (by kernel_rfl))
  f32 := Tryd.func68.trans (congrArg some (by kernel_rfl))
  f33 := Tryd.func69.trans (congrArg some (by kernel_rfl))
  f34 := Tryd.func80.trans (congrArg some (by kernel_rfl))
  f35 := Tryd.func81.trans (congrArg some (by kernel_rfl))
  f36 := Tryd.func82.trans (congrArg some (by kernel_rfl))
  f37 := Tryd.func83.trans (congrArg some (by kernel_rfl))
  f38 := Tryd.func84.trans (congrArg some (by kernel_rfl))
  f39 := Tryd.func88.trans (congrArg some (by kernel_rfl))
  f40 := Tryd.func89.trans (congrArg some (by kernel_rfl))
  t0 := Tryd.underlying0
  a0 := Tryd.isAgg0
  z0 := Tryd.sizeOf0
  v0 := Tryd.zeroValue0
  i0 := by kernel_rfl
  t2 := Tryd.underlying2
  a2 := Tryd.isAgg2
  z2 := Tryd.sizeOf2
  v2 := Tryd.zeroValue2
  i2 := by kernel_rfl
  t3 := Tryd.underlying3
  a3 := Tryd.isAgg3
  z3 := Tryd.sizeOf3
  v3 := Tryd.zeroValue3
  i3 := by kernel_rfl
  t4 := Tryd.underlying4
  a4 := Tryd.isAgg4
  z4 := Tryd.sizeOf4
  v4 := Tryd.zeroValue4
  i4 := by kernel_rfl
  t5 := Tryd.underlying5
  a5 := Tryd.isAgg5
  z5 := Tryd.sizeOf5
  v5 := Tryd.zeroValue5
  i5 := by kernel_rfl
  t9 := Tryd.underlying9
  a9 := Tryd.isAgg9
  z9 := Tryd.sizeOf9
  v9 := Tryd.zeroValue9
  i9 := by kernel_rfl
  t20 := Tryd.underlying20
  a20 := Tryd.isAgg20
  z20 := Tryd.sizeOf20
  v20 := Tryd.zeroValue20
  i20 := by kernel_rfl
  t21 := Tryd.underlying21
  a21 := Tryd.isAgg21
  z21 := Tryd.sizeOf21
  v21 := Tryd.zeroValue21
  i21 := by kernel_rfl
  t22 := Tryd.underlying41
  a22 := Tryd.isAgg41
  z22 := Tryd.sizeOf41
  v22 := Tryd.zeroValue41
  i22 := by kernel_rfl
  t24 := Tryd.underlying85
  a24 := Tryd.isAgg85
  z24 := Tryd.sizeOf85
  v24 := Tryd.zeroValue85
  i24 := by kernel_rfl
  t25 := Tryd.underlying122
  a25 := Tryd.isAgg122
  z25 := Tryd.sizeOf122
  v25 := Tryd.zeroValue122
  i25 := by kernel_rfl
  t34 := Tryd.underlying129
  a34 := Tryd.isAgg129
  z34 := Tryd.sizeOf129
  v34 := Tryd.zeroValue129
  i34 := by kernel_rfl
  c34 := by kernel_rfl
  t36 := Tryd.underlying120
  a36 := Tryd.isAgg120
  z36 := Tryd.sizeOf120
  v36 := Tryd.zeroValue120
  i36 := by kernel_rfl
  t37 := Tryd.underlying39
  a37 := Tryd.isAgg39
  z37 := Tryd.sizeOf39
  v37 := Tryd.zeroValue39
  i37 := by kernel_rfl
  t39 := Tryd.underlying132
  a39 := Tryd.isAgg132
  z39 := Tryd.sizeOf132
  v39 := Tryd.zeroValue132
  i39 := by kernel_rfl
  t44 := Tryd.underlying137
  a44 := Tryd.isAgg137
  z44 := Tryd.sizeOf137
  v44 := Tryd.zeroValue137
  i44 := by kernel_rfl
  t47 := Tryd.underlying90
  a47 := Tryd.isAgg90
  z47 := Tryd.sizeOf90
  v47 := Tryd.zeroValue90
  i47 := by kernel_rfl
  t48 := Tryd.underlying139
  a48 := Tryd.isAgg139
  z48 := Tryd.sizeOf139
  v48 := Tryd.zeroValue139
  i48 := by kernel_rfl
  t50 := Tryd.underlying141
  a50 := Tryd.isAgg141
  z50 := Tryd.sizeOf141
  v50 := Tryd.zeroValue141
  i50 := by kernel_rfl
  t52 := Tryd.underlying101
  a52 := Tryd.isAgg101
  z52 := Tryd.sizeOf101
  v52 := Tryd.zeroValue101
  i52 := by kernel_rfl
  t55 := Tryd.underlying104
  a55 := Tryd.isAgg104
  z55 := Tryd.sizeOf104
  v55 := Tryd.zeroValue104
  i55 := by kernel_rfl
  t59 := Tryd.underlying117
  a59 := Tryd.isAgg117
  z59 := Tryd.sizeOf117
  v59 := Tryd.zeroValue117
  i59 := by kernel_rfl
  t60 := Tryd.underlying118
  a60 := Tryd.isAgg118
  z60 := Tryd.sizeOf118
  v60 := Tryd.zeroValue118
  i60 := by kernel_rfl
  t61 := Tryd.underlying119
  a61 := Tryd.isAgg119
  z61 := Tryd.sizeOf119
  t65 := Tryd.underlying127
  a65 := Tryd.isAgg127
  z65 := Tryd.sizeOf127
  v65 := Tryd.zeroValue127
  i65 := by kernel_rfl
  t66 := Tryd.underlying128
  a66 := Tryd.isAgg128
  z66 := Tryd.sizeOf128
  v66 := Tryd.zeroValue128
  i66 := by kernel_rfl
  t67 := Tryd.underlying63
  a67 := Tryd.isAgg63
  z67 := Tryd.sizeOf63
  v67 := Tryd.zeroValue63
  i67 := by kernel_rfl
  g0 := by kernel_rfl
  m0 := by kernel_rfl
  g1 := by kernel_rfl
  m1 := by kernel_rfl
  g2 := by kernel_rfl
  m2 := by kernel_rfl
  g3 := by kernel_rfl
  m3 := by kernel_rfl
  g4 := by kernel_rfl
  m4 := by kernel_rfl }
end Go.Proofs.YtcddajbcbkbipaaDoor

namespace Go.Proofs.YtcddajbcbkbipaaDoor
open Go Go.Shelf Go.RowKit Go.Sort

theorem c_Len64 (x : Int) (w : World) (h0 : 0 ≤ x) (h1 : x ≤ 18446744073709551615) : Calls Tryd.prog 81 #[.int .u64 x] w fun e w' => e = .returned (.int .i64 (Lib.bitLen x.toNat)) ∧ w' = w :=
  Any.bits_Len64 { laysM171 with } x w h0 h1
theorem c_log10 (x : Nat) (h : x ≤ 64) (w : World) : Calls Tryd.prog 80 #[.int .i64 (x : Int)] w fun e w' => e = .returned (.int .i64 (Lib.l10 x)) ∧ w' = w :=
  Any.internal_strconv_log10Pow2 { laysM171 with } x h w
theorem c_bool2 (b : Bool) (w : World) : Calls Tryd.prog 82 #[.bool b] w fun e w' => e = .returned (.int .i64 (if b = true then 1 else 0)) ∧ w' = w :=
  Any.internal_strconv_bool2_int { laysM171 with } b w
theorem c_small (i : Nat) (h : i < 100) (w : World) : Calls Tryd.prog 66 #[.int .i64 (i : Int)] w fun e w' => e = .returned (.string ⟨(Lib.decDigits i).toArray⟩) ∧ w' = w :=
  Any.internal_strconv_small { laysM171 with } i h w
theorem c_format (blk off cap u : Nat) (d : Array UInt8) (w : World) (hH : Holds (fun (b : UInt8) => Value.int .u8 (b.toNat : Int)) w blk off d) (hu : u < 10 ^ d.size) (hu64 : u < 18446744073709551616) (hsz : d.size < 4611686018427387904) :
    Calls Tryd.prog 68 #[.slice (some ⟨blk, off, none⟩) d.size cap, .int .u64 (u : Int)] w fun e w' =>
      e = .returned (.tuple #[]) ∧ ∃ (n v' : Nat) (dk : Array UInt8), w' = (putRow (fun (b : UInt8) => Value.int .u8 (b.toNat : Int)) w blk off dk).drewN n ∧ Lib.FmtInv d.size u 0 v' dk :=
  Any.internal_strconv_formatBase10 { laysM171 with } blk off cap u d w hH hu hu64 hsz

/-- The table of powers of ten, cell by cell. -/
def Pow10 (w : World) : Prop := ∀ i, i < 20 → w.cell? ⟨2, i, none⟩ = some (.int .u64 ((10 ^ i : Nat) : Int))
theorem Pow10.alloc {w : World} (h : Pow10 w) (o : Obj) : Pow10 (w.alloc o) := fun i hi => (World.cell?_alloc_lt (w := w) (o := o) (a := ⟨2, i, none⟩) (World.block_lt_of_cell? (a := ⟨_, i, none⟩) (h := h i hi))).trans (h i hi)

set_option maxHeartbeats 4000000 in
set_option maxRecDepth 100000 in
/-- How many digits a number has. -/
theorem w_numDigits (u : Nat) (h1 : 1 ≤ u) (h2 : u < 18446744073709551616) (w : World) (hp : Pow10 w) :
    Calls Tryd.prog 67 #[.int .u64 (u : Int)] w fun e w' => e = .returned (.int .i64 (Lib.nDigits u)) ∧ w' = w := by
  obtain ⟨hnd, h19⟩ := Lib.numDigits_eq u h1 h2
  have hL : Lib.bitLen u ≤ 64 := Lib.bitLen_le u 64 (Nat.le_refl _) h2
  have hto : ((u : Int)).toNat = u := by omega
  generalize hq : Lib.l10 (Lib.bitLen u) = q at hnd h19
  have h20 : q < 20 := by omega
  have hcell := hp q h20
  generalize hT : 10 ^ q = T at hnd hcell
  have Hnd := Lib.hid hnd
  clear hnd hp
  go_enter Tryd.func67, Tryd.ntmps67
  go_wp2_with (first
    | (go_at_call 81; refine (c_Len64 _ _ (by omega) (by omega)).mono ?_; rintro e w' ⟨rfl, rfl⟩)
    | (go_at_call 80; refine (c_log10 _ (by first | exact hL | (rw [hto]; exact hL)) _).mono ?_; rintro e w' ⟨rfl, rfl⟩)
    | (go_at_call 82; refine (c_bool2 _ _).mono ?_; rintro e w' ⟨rfl, rfl⟩))
  all_goals go_ret
  all_goals (
    refine ⟨?_, rfl⟩
    have hnd := Hnd.out
    congr 2
    split at hnd <;> simp_all <;> omega)

set_option maxHeartbeats 8000000 in
set_option maxRecDepth 100000 in
/-- A number as digits. -/
theorem w_FormatUint (u : Nat) (hu64 : u < 18446744073709551616) (w : World) (hp : Pow10 w) :
    Calls Tryd.prog 49 #[.int .u64 (u : Int), .int .i64 10] w fun e w' => e = .returned (.string ⟨(Lib.decDigits u).toArray⟩) ∧ ∃ k os, w' = grow (w.drewN k) os := by
  by_cases hs : u < 100
  · have hcs := c_small u hs
    go_enter Tryd.func49, Tryd.ntmps49
    go_wp2_with (go_at_call 66; refine (hcs _).mono ?_; rintro e w' ⟨rfl, rfl⟩)
    go_ret
    exact ⟨rfl, 0, #[], by simp [World.drewN_zero]⟩
  · have hu1 : 1 ≤ u := by omega
    have hnd20 : Lib.nDigits u ≤ 20 := by have := Lib.numDigits_eq u hu1 hu64; split at this <;> omega
    have hal : Tryd.prog.arrayLen 101 = 24 := by simp [Program.arrayLen, Tryd.underlying101]
    have hsl1 : ∀ W, (Instr.sliceAt 101 (.pointer (some ⟨w.heap.size, 0, none⟩)) none (some (.int .i64 (Lib.nDigits u : Int))) none).run Tryd.prog W = .ok (.slice (some ⟨w.heap.size, 0, none⟩) (Lib.nDigits u) 24) W := fun W => by
      rw [run_sliceAt_array_h W 101 ⟨w.heap.size, 0, none⟩ (by simp [Program.arrayLen, Program.elem, Tryd.underlying101]) .i64 (Lib.nDigits u : Int) (by omega) (by rw [hal]; omega)]
      go_simp
    have hH0 := Lib.holds_zero0 w 101 (Lib.nDigits u) (by omega)
    have hfmt := c_format w.heap.size 0 24 u (Array.replicate (Lib.nDigits u) 0) (w.alloc (.cells Lib.zeros24 101)) hH0 (by rw [Array.size_replicate]; exact Lib.lt_pow_nDigits u) hu64 (by rw [Array.size_replicate]; omega)
    rw [Array.size_replicate] at hfmt
    have HH0 := Lib.hid hH0
    clear hH0 hal
    go_enter Tryd.func49, Tryd.ntmps49
    go_wp2_with (first
      | (go_at_call 67; refine (w_numDigits u hu1 hu64 _ (hp.alloc _)).mono ?_; rintro e w' ⟨rfl, rfl⟩))
    go_at_call 68
    refine hfmt.mono ?_
    rintro e w' ⟨rfl, k, v', dk, rfl, hF⟩
    have hcv : (convert 39 9 (.slice (some ⟨w.heap.size, 0, none⟩) (Lib.nDigits u) 24)).run Tryd.prog ((putRow (fun (b : UInt8) => Value.int .u8 (b.toNat : Int)) (w.alloc (.cells Lib.zeros24 101)) w.heap.size 0 dk).drewN k) = .ok (.string ⟨(Lib.decDigits u).toArray⟩) ((putRow (fun (b : UInt8) => Value.int .u8 (b.toNat : Int)) (w.alloc (.cells Lib.zeros24 101)) w.heap.size 0 dk).drewN k) := by
      have h := run_convert_bytes_back (P := Tryd.prog) ((putRow (fun (b : UInt8) => Value.int .u8 (b.toNat : Int)) (w.alloc (.cells Lib.zeros24 101)) w.heap.size 0 dk).drewN k) 39 9 5 ⟨w.heap.size, 0, none⟩ 24 (Lib.decDigits u) Tryd.underlying39 Tryd.underlying5 Tryd.underlying9 (fun j hj => by
        rw [Lib.row_is_numeral hF j hj, Lib.add_plain, World.cell?_drewN]
        exact cell?_putRow (fun (b : UInt8) => Value.int .u8 (b.toNat : Int)) _ w.heap.size 0 _ dk HH0.out (by rw [hF.size, Array.size_replicate]) j (by rw [hF.size]; rw [Lib.decDigits_length] at hj; exact hj))
      rw [Lib.decDigits_length] at h
      exact h
    go_wp2
    go_ret
    obtain ⟨os, eo⟩ := Lib.fin_at w (.cells Lib.zeros24 101) dk k 0
    exact ⟨rfl, k, os, eo⟩

set_option maxHeartbeats 8000000 in
set_option maxRecDepth 100000 in
/-- The same of a number of the other kind, from 0 on. -/
theorem w_FormatInt (u : Nat) (h63 : u < 9223372036854775808) (w : World) (hp : Pow10 w) :
    Calls Tryd.prog 79 #[.int .i64 (u : Int), .int .i64 10] w fun e w' => e = .returned (.string ⟨(Lib.decDigits u).toArray⟩) ∧ ∃ k os, w' = grow (w.drewN k) os := by
  by_cases hs : u < 100
  · have hcs := c_small u hs
    go_enter Tryd.func79, Tryd.ntmps79
    go_wp2_with (go_at_call 66; refine (hcs _).mono ?_; rintro e w' ⟨rfl, rfl⟩)
    go_ret
    exact ⟨rfl, 0, #[], by simp [World.drewN_zero]⟩
  · have hu1 : 1 ≤ u := by omega
    have hu64 : u < 18446744073709551616 := by omega
    have hnd20 : Lib.nDigits u ≤ 20 := by have := Lib.numDigits_eq u hu1 hu64; split at this <;> omega
    have hb3 : Lib.nDigits u ≤ 23 := by omega
    have hal : Tryd.prog.arrayLen 101 = 24 := by simp [Program.arrayLen, Tryd.underlying101]
    have hsl1 : ∀ W, (Instr.sliceAt 101 (.pointer (some ⟨w.heap.size, 0, none⟩)) (some (.int .i64 1)) (some (.int .i64 (1 + (Lib.nDigits u : Int)))) none).run Tryd.prog W = .ok (.slice (some ⟨w.heap.size, 1, none⟩) (Lib.nDigits u) 23) W := fun W => by
      rw [run_sliceAt_array_lh W 101 ⟨w.heap.size, 0, none⟩ (by simp [Program.arrayLen, Program.elem, Tryd.underlying101]) .i64 .i64 1 (1 + (Lib.nDigits u : Int)) (by omega) (by omega) (by rw [hal]; omega)]
      go_simp
      omega
    have hH0 := Lib.holds_zero w 101 (Lib.nDigits u) (by omega)
    have hfmt := c_format w.heap.size 1 23 u (Array.replicate (Lib.nDigits u) 0) (w.alloc (.cells Lib.zeros24 101)) hH0 (by rw [Array.size_replicate]; exact Lib.lt_pow_nDigits u) hu64 (by rw [Array.size_replicate]; omega)
    rw [Array.size_replicate] at hfmt
    have HH0 := Lib.hid hH0
    clear hH0 hal
    go_enter Tryd.func79, Tryd.ntmps79
    go_wp2_with (first
      | (go_at_call 67; refine (w_numDigits u hu1 hu64 _ (hp.alloc _)).mono ?_; rintro e w' ⟨rfl, rfl⟩))
    go_at_call 68
    refine hfmt.mono ?_
    rintro e w' ⟨rfl, k, v', dk, rfl, hF⟩
    have hcv : (convert 39 9 (.slice (some ⟨w.heap.size, 1, none⟩) (Lib.nDigits u) 23)).run Tryd.prog ((putRow (fun (b : UInt8) => Value.int .u8 (b.toNat : Int)) (w.alloc (.cells Lib.zeros24 101)) w.heap.size 1 dk).drewN k) = .ok (.string ⟨(Lib.decDigits u).toArray⟩) ((putRow (fun (b : UInt8) => Value.int .u8 (b.toNat : Int)) (w.alloc (.cells Lib.zeros24 101)) w.heap.size 1 dk).drewN k) := by
      have h := run_convert_bytes_back (P := Tryd.prog) ((putRow (fun (b : UInt8) => Value.int .u8 (b.toNat : Int)) (w.alloc (.cells Lib.zeros24 101)) w.heap.size 1 dk).drewN k) 39 9 5 ⟨w.heap.size, 1, none⟩ 23 (Lib.decDigits u) Tryd.underlying39 Tryd.underlying5 Tryd.underlying9 (fun j hj => by
        rw [Lib.row_is_numeral hF j hj, Lib.add_plain, World.cell?_drewN]
        exact cell?_putRow (fun (b : UInt8) => Value.int .u8 (b.toNat : Int)) _ w.heap.size 1 _ dk HH0.out (by rw [hF.size, Array.size_replicate]) j (by rw [hF.size]; rw [Lib.decDigits_length] at hj; exact hj))
      rw [Lib.decDigits_length] at h
      exact h
    go_wp2
    go_ret
    obtain ⟨os, eo⟩ := Lib.fin_at w (.cells Lib.zeros24 101) dk k 1
    exact ⟨rfl, k, os, eo⟩

set_option maxRecDepth 100000 in
theorem w_Itoa (u : Nat) (h63 : u < 9223372036854775808) (w : World) (hp : Pow10 w) :
    Calls Tryd.prog 48 #[.int .i64 (u : Int)] w fun e w' => e = .returned (.string ⟨(Lib.decDigits u).toArray⟩) ∧ ∃ k os, w' = grow (w.drewN k) os := by
  have hI : Calls Tryd.prog 65 #[.int .i64 (u : Int)] w fun e w' => e = .returned (.string ⟨(Lib.decDigits u).toArray⟩) ∧ ∃ k os, w' = grow (w.drewN k) os := by
    have hF := w_FormatInt u h63 w hp
    go_enter Tryd.func65, Tryd.ntmps65
    go_wp2_with (go_at_call 79; refine hF.mono ?_; rintro e w' ⟨rfl, k, os, rfl⟩)
    go_ret
    exact ⟨rfl, k, os, rfl⟩
  go_enter Tryd.func48, Tryd.ntmps48
  go_wp2_with (go_at_call 65; refine hI.mono ?_; rintro e w' ⟨rfl, k, os, rfl⟩)
  go_ret
  exact ⟨rfl, k, os, rfl⟩
set_option maxRecDepth 100000 in
theorem w_FormatUintP (u : Nat) (hu64 : u < 18446744073709551616) (w : World) (hp : Pow10 w) :
    Calls Tryd.prog 24 #[.int .u64 (u : Int), .int .i64 10] w fun e w' => e = .returned (.string ⟨(Lib.decDigits u).toArray⟩) ∧ ∃ k os, w' = grow (w.drewN k) os := by
  have hI := w_FormatUint u hu64 w hp
  go_enter Tryd.func24, Tryd.ntmps24
  go_wp2_with (go_at_call 49; refine hI.mono ?_; rintro e w' ⟨rfl, k, os, rfl⟩)
  go_ret
  exact ⟨rfl, k, os, rfl⟩
end Go.Proofs.YtcddajbcbkbipaaDoor

namespace Go.Proofs.YtcddajbcbkbipaaDoor
open Go Go.Shelf Go.RowKit

theorem c_lower (c : Int) (w : World) : Calls Tryd.prog 92 #[.int .u8 c] w fun e w' => e = .returned (.int .u8 (bits .or .u8 c 32)) ∧ w' = w := AnyPu.internal_strconv_lower { laysPu14 with } c w

set_option maxHeartbeats 32000000 in
set_option maxRecDepth 100000 in
/-- Of bytes that there are. -/
theorem w_Parse31I (t : ByteArray) (hne : t.size ≠ 0) (hmax : t.size ≤ 9223372036854775806) (w : World) :
    Calls Tryd.prog 90 #[.string t, .int .i64 10, .int .i64 31] w fun e w' => e = .returned (Lib.uintTupleM 129 2147483647 (Lib.parseUintM 2147483647 0 t.data.toList)) ∧ w' = Lib.bytesWorld w 5 t := by
  have hemp : t.toList.isEmpty = false := by
    rw [← decide_eq_emptyBytes]
    exact decide_eq_false (fun h => hne (by rw [h]; rfl))
  have hcv := Lib.run_convert_string_bytes (P := Tryd.prog) w 9 39 5 t (u := .string) Tryd.underlying9 Tryd.underlying39 Tryd.underlying5
  have hB : ∀ j, j < t.size → (Lib.bytesWorld w 5 t).cell? ⟨w.heap.size, j, none⟩ = some (.int .u8 (t.data.toList.getD j 0).toNat) := fun j hj => Lib.bytesWorld_cell w 5 t j hj
  obtain ⟨W1, hW1⟩ : ∃ W1, W1 = Lib.bytesWorld w 5 t := ⟨_, rfl⟩
  rw [← hW1] at hcv hB ⊢
  clear hW1
  obtain ⟨bs, hL⟩ : ∃ bs, bs = t.data.toList := ⟨_, rfl⟩
  have hLn : bs.length = t.size := by rw [hL, Lib.size_eq]
  rw [← hL] at hB ⊢
  clear hL
  have hmv : IntKind.u64.wrap (IntKind.u64.wrap 2147483648 - 1) = 2147483647 := by
    rw [IntKind.wrap_u64, IntKind.wrap_u64]
    decide
  go_enter Tryd.func90, Tryd.ntmps90
  go_wp2
  go_loop [12, 13, 101] (fun vu vn vi => ∃ (k acc : Nat) (a : Int), vu = .bool false ∧ vn = .int .u64 a ∧ vi = .int .i64 k ∧ k ≤ t.size ∧ Hid (a = (acc : Int) ∧ acc ≤ 2147483647 ∧ Lib.parseUintM 2147483647 0 bs = Lib.parseUintM 2147483647 acc (bs.drop k)))
    (fun _ _ vi => t.size - (intOf vi).toNat)
  case atStart => exact ⟨0, 0, 0, rfl, rfl, rfl, by omega, rfl, by omega, rfl⟩
  case round =>
    obtain ⟨k, acc, a, rfl, rfl, rfl, hk, hh⟩ := hrel
    obtain ⟨ha, hacc, hdec⟩ := hh.out
    clear hh
    have a0 : 0 ≤ a := by omega
    have a1 : a ≤ 2147483647 := by omega
    by_cases hkn : k < t.size
    · have hc := hB k hkn
      have hdrop : bs.drop k = bs[k]'(by omega) :: bs.drop (k + 1) := List.drop_eq_getElem_cons (by omega)
      have hget : bs.getD k 0 = bs[k]'(by omega) := by simp [List.getD, List.getElem?_eq_getElem (show k < bs.length by omega)]
      rw [hdrop] at hdec
      rw [hget] at hc
      generalize bs[k]'(by omega) = c at hc hdec
      have hc256 : c.toNat < 256 := c.toNat_lt
      clear hB hdrop hget
      by_cases hdig : 48 ≤ c.toNat ∧ c.toNat ≤ 57
      · obtain ⟨hd0, hd1⟩ := hdig
        have hcut : ¬ 1844674407370955162 ≤ acc := by omega
        by_cases hov : 2147483647 < acc * 10 + (c.toNat - 48)
        · have hF : Lib.parseUintM 2147483647 acc (c :: bs.drop (k + 1)) = .range := by simp [Lib.parseUintM, hd0, hd1, hcut, hov]
          rw [hF] at hdec
          have iov : 2147483647 < a * 10 + ((c.toNat : Int) - 48) := by omega
          clear hcut hacc hF hov ha
          go_wp2
          go_ret2
          exact ⟨rfl, rfl⟩
        · have hF : Lib.parseUintM 2147483647 acc (c :: bs.drop (k + 1)) = Lib.parseUintM 2147483647 (acc * 10 + (c.toNat - 48)) (bs.drop (k + 1)) := by simp [Lib.parseUintM, hd0, hd1, hcut, hov]
          have HN : Hid (a * 10 + ((c.toNat : Int) - 48) = ((acc * 10 + (c.toNat - 48) : Nat) : Int) ∧ acc * 10 + (c.toNat - 48) ≤ 2147483647 ∧ Lib.parseUintM 2147483647 0 bs = Lib.parseUintM 2147483647 (acc * 10 + (c.toNat - 48)) (bs.drop (k + 1))) := Lib.hid ⟨by omega, by omega, hdec.trans hF⟩
          have iov : a * 10 + ((c.toNat : Int) - 48) ≤ 2147483647 := by omega
          clear hcut hacc hF hov hdec ha
          go_wp2
          refine ⟨⟨k + 1, acc * 10 + (c.toNat - 48), a * 10 + ((c.toNat : Int) - 48), rfl, (by first | rfl | (congr 1; omega)), (by first | rfl | (congr 1; omega)), by omega, HN⟩, by simp [intOf]; omega⟩
      · have hF : Lib.parseUintM 2147483647 acc (c :: bs.drop (k + 1)) = Lib.parseUintB 1 [] := by simp [Lib.parseUintM, Lib.parseUintB, hdig]
        rw [hF] at hdec
        clear hacc hF ha
        have hv0 := bits_lo_u8 .or (c.toNat : Int) 32
        have hv1 := bits_hi_u8 .or (c.toNat : Int) 32
        have hu0 := bits_lo_u8 .or 95 32
        have hu1 := bits_hi_u8 .or 95 32
        go_wp2_with (go_at_call 92; refine (c_lower _ _).mono ?_; rintro e w' ⟨rfl, rfl⟩)
        all_goals go_ret2
        all_goals first | exact ⟨rfl, rfl⟩ | exact ⟨by rw [hdec]; rfl, rfl⟩
    · have hkk : k = t.size := by omega
      subst hkk
      have hF : Lib.parseUintM 2147483647 acc (bs.drop t.size) = .ok acc := by rw [List.drop_eq_nil_of_le (by omega)]; rfl
      rw [hF] at hdec
      subst ha
      clear hacc hF a0 a1
      go_wp2
      go_ret2
      exact ⟨rfl, rfl⟩

theorem w_Parse31 (t : ByteArray) (hmax : t.size ≤ 9223372036854775806) (w : World) :
    Calls Tryd.prog 90 #[.string t, .int .i64 10, .int .i64 31] w fun e w' => e = .returned (Lib.uintTupleM 129 2147483647 (Lib.parseUintB 31 t.data.toList)) ∧ (w' = w ∨ w' = Lib.bytesWorld w 5 t) := by
  by_cases h0 : t.size = 0
  · have ht : t = ⟨#[]⟩ := by
      apply ByteArray.ext
      exact Array.eq_empty_of_size_eq_zero h0
    subst ht
    exact (AnyPu.internal_strconv_ParseUint_empty (P := Tryd.prog) { laysPu14 with } 10 31 w).mono fun e w' ⟨he, hw⟩ => ⟨he, Or.inl hw⟩
  · have hne : t.data.toList ≠ [] := fun h => h0 (by rw [Lib.size_eq, h]; rfl)
    refine (w_Parse31I t h0 hmax w).mono fun e w' ⟨he, hw⟩ => ⟨?_, Or.inr hw⟩
    rw [he, Lib.parseUintB, if_neg hne]

theorem c_toErrorS (s : ByteArray) (bits : Int) (ev : Value) (w : World) (hs : s.size ≤ 281474976710656) (hv : w.cell? ⟨6, 0, none⟩ = some ev) (hev : ev = .nilIface ∨ ∃ te pe, ev = .iface te pe) :
    Calls Tryd.prog 91 #[.string ⟨#[80, 97, 114, 115, 101, 85, 105, 110, 116]⟩, .string s, .int .i64 10, .int .i64 bits, .iface 129 (.int .i64 2)] w fun e w' => ∃ t v, e = .returned (.iface t v) ∧ Below w.heap.size w w' :=
  (AnyPu.strconv_toError_syntax (P := Tryd.prog) { laysPu14 with } _ s 10 bits ev w hs hv hev).mono fun e w' ⟨_, h1, _, _, h4⟩ => ⟨_, _, h1, h4⟩
theorem c_toErrorR (s : ByteArray) (bits : Int) (ev : Value) (w : World) (hs : s.size ≤ 281474976710656) (hv : w.cell? ⟨7, 0, none⟩ = some ev) (hev : ev = .nilIface ∨ ∃ te pe, ev = .iface te pe) :
    Calls Tryd.prog 91 #[.string ⟨#[80, 97, 114, 115, 101, 85, 105, 110, 116]⟩, .string s, .int .i64 10, .int .i64 bits, .iface 129 (.int .i64 1)] w fun e w' => ∃ t v, e = .returned (.iface t v) ∧ Below w.heap.size w w' :=
  (AnyPu.strconv_toError_range (P := Tryd.prog) { laysPu14 with } _ s 10 bits ev w hs hv hev).mono fun e w' ⟨_, h1, _, _, h4⟩ => ⟨_, _, h1, h4⟩

/-- What the outcome is told as: the number, and whether there is an error. -/
def numEnd (M : Int) : Lib.NumEnd Nat → Int × Bool
  | .ok n => (n, false)
  | .range => (M, true)
  | _ => (0, true)
/-- An interface value that is nil, or isn't. -/
def IsErr (b : Bool) (v : Value) : Prop := if b then ∃ t x, v = .iface t x else v = .nilIface

set_option maxHeartbeats 8000000 in
set_option maxRecDepth 100000 in
theorem w_Parse (s : ByteArray) (bits : Nat) (M : Int) (hI : ∀ w : World, Calls Tryd.prog 90 #[.string s, .int .i64 10, .int .i64 (bits : Int)] w fun e w' => e = .returned (Lib.uintTupleM 129 M (Lib.parseUintB bits s.data.toList)) ∧ (w' = w ∨ w' = Lib.bytesWorld w 5 s))
    (hs : s.size ≤ 281474976710656) (w : World) (hv : ∃ t v, w.cell? ⟨6, 0, none⟩ = some (.iface t v)) (hv' : ∃ t v, w.cell? ⟨7, 0, none⟩ = some (.iface t v)) :
    Calls Tryd.prog 85 #[.string s, .int .i64 10, .int .i64 (bits : Int)] w fun e w' => ∃ y, e = .returned (.tuple #[.int .u64 (numEnd M (Lib.parseUintB bits s.data.toList)).1, y]) ∧ IsErr (numEnd M (Lib.parseUintB bits s.data.toList)).2 y ∧ Below w.heap.size w w' := by
  obtain ⟨ts, vs, hv⟩ := hv
  obtain ⟨tr, vr, hv'⟩ := hv'
  have hG : 6 < w.heap.size := Lib.lt_of_cell hv
  have hG' : 7 < w.heap.size := Lib.lt_of_cell hv'
  have hI := hI w
  have hbe : ∀ W1, (W1 = w ∨ W1 = Lib.bytesWorld w 5 s) → Below w.heap.size w W1 := by
    rintro W1 (rfl | rfl)
    · exact Below.refl _ _
    · exact Lib.bytesWorld_below _ _ _
  generalize Lib.parseUintB bits s.data.toList = r at hI ⊢
  cases r with
  | ok u =>
    have hI : Calls Tryd.prog 90 #[.string s, .int .i64 10, .int .i64 (bits : Int)] w fun e w' => e = .returned (.tuple #[.int .u64 u, .nilIface]) ∧ (w' = w ∨ w' = Lib.bytesWorld w 5 s) := hI
    go_enter Tryd.func85, Tryd.ntmps85
    go_wp2_with (go_at_call 90; refine hI.mono ?_; rintro e W1 ⟨rfl, hW⟩)
    go_wp2
    go_ret2
    exact ⟨_, rfl, rfl, hbe _ hW⟩
  | range =>
    have hI : Calls Tryd.prog 90 #[.string s, .int .i64 10, .int .i64 (bits : Int)] w fun e w' => e = .returned (.tuple #[.int .u64 M, .iface 129 (.int .i64 1)]) ∧ (w' = w ∨ w' = Lib.bytesWorld w 5 s) := hI
    go_enter Tryd.func85, Tryd.ntmps85
    go_wp2_with (go_at_call 90; refine hI.mono ?_)
    rintro e W1 ⟨rfl, hW⟩
    have hb1 := hbe _ hW
    have hv1 : W1.cell? ⟨7, 0, none⟩ = some (.iface tr vr) := (hb1.cell (show (⟨7, 0, none⟩ : Addr).block < w.heap.size from hG')).trans hv'
    clear hW
    go_wp2_with (go_at_call 91; refine (c_toErrorR s _ (.iface tr vr) _ hs ?_ (Or.inr ⟨_, _, rfl⟩)).mono ?_)
    · exact hv1
    rintro e W2 ⟨t, v, rfl, h3⟩
    go_wp2
    go_ret2
    exact ⟨_, rfl, ⟨_, _, rfl⟩, hb1.trans (h3.mono hb1.size)⟩
  | _ =>
    have hI : Calls Tryd.prog 90 #[.string s, .int .i64 10, .int .i64 (bits : Int)] w fun e w' => e = .returned (.tuple #[.int .u64 0, .iface 129 (.int .i64 2)]) ∧ (w' = w ∨ w' = Lib.bytesWorld w 5 s) := hI
    go_enter Tryd.func85, Tryd.ntmps85
    go_wp2_with (go_at_call 90; refine hI.mono ?_)
    rintro e W1 ⟨rfl, hW⟩
    have hb1 := hbe _ hW
    have hv1 : W1.cell? ⟨6, 0, none⟩ = some (.iface ts vs) := (hb1.cell (show (⟨6, 0, none⟩ : Addr).block < w.heap.size from hG)).trans hv
    clear hW
    go_wp2_with (go_at_call 91; refine (c_toErrorS s _ (.iface ts vs) _ hs ?_ (Or.inr ⟨_, _, rfl⟩)).mono ?_)
    · exact hv1
    rintro e W2 ⟨t, v, rfl, h3⟩
    go_wp2
    go_ret2
    exact ⟨_, rfl, ⟨_, _, rfl⟩, hb1.trans (h3.mono hb1.size)⟩
theorem w_Parse64I (t : ByteArray) (hmax : t.size ≤ 9223372036854775806) (w : World) :
    Calls Tryd.prog 90 #[.string t, .int .i64 10, .int .i64 64] w fun e w' => e = .returned (Lib.uintTupleM 129 18446744073709551615 (Lib.parseUintB 64 t.data.toList)) ∧ (w' = w ∨ w' = Lib.bytesWorld w 5 t) :=
  AnyPu.internal_strconv_ParseUint_10_at64 (P := Tryd.prog) { laysPu14 with } t hmax w
end Go.Proofs.YtcddajbcbkbipaaDoor

namespace Go.Proofs.YtcddajbcbkbipaaDoor
open Go Go.Shelf Go.RowKit

section
variable {I : Nat → Nat → Prop} {θ : Nat → Option (Nat × Nat)} {w w' : World}

theorem ownRel_nil (I : Nat → Nat → Prop) (θ : Nat → Option (Nat × Nat)) (w : World) : OwnRel I (look []) θ w :=
  ⟨(fun _ _ _ h => by cases h), (fun _ _ _ _ h => by cases h), (fun _ _ _ _ _ h => (h rfl).elim), (fun _ _ _ _ _ h => by cases h), (fun _ _ h => by cases h), (fun _ _ _ h => by cases h)⟩
theorem chg_below (hb : Below w.heap.size w w') (hval : ∀ b o, I b o → ∃ u, w.cell? ⟨b, o, none⟩ = some u) : Chg (look []) θ I w (look []) θ I w' :=
  have hcell : ∀ b o, I b o → w'.cell? ⟨b, o, none⟩ = w.cell? ⟨b, o, none⟩ := fun b o hi => by
    obtain ⟨u, hu⟩ := hval b o hi
    exact World.cell?_of_block (a := ⟨b, o, none⟩) (hb.block b (cell_lt hu))
  { imm := fun _ _ h => h, cell := hcell, le := fun _ _ h => (by cases h), rel := ownRel_nil _ _ _, valid := fun b o hi => by obtain ⟨u, hu⟩ := hval b o hi; exact ⟨u, (hcell b o hi).trans hu⟩,
    os := hb.os, tape := hb.tape, output := hb.output, grow := hb.size, frame := fun b hlt _ => hb.block b hlt, new := fun _ _ _ h => (h rfl).elim, immNew := fun _ _ h => .inl h }

/-- A function that owns nothing, and turns nothing that was there. -/
theorem spec_of_below {P : Program} {f : FuncId} {args : List AV} {res : AV} (hen : ∀ (zs : Array Value) (w : World), (callFunc f zs).run P w = .ok (.enter f zs) w)
    (h : ∀ (w : World) (I : Nat → Nat → Prop) (θ : Nat → Option (Nat × Nat)) (zs : Array Value), RepL I (look []) θ w zs.toList args → (∀ b o, I b o → ∃ u, w.cell? ⟨b, o, none⟩ = some u) → GOk I w →
      Calls P f zs w fun e w' => ∃ v, e = .returned v ∧ (∀ I θ, Rep I (look []) θ w' v res) ∧ Below w.heap.size w w') : Spec P f args [] res [] :=
  ⟨hen, fun w I θ zs hargs _ hval hglob => (h w I θ zs hargs hval hglob).mono fun e w' ⟨v, he, hr, hb⟩ => ⟨v, I, θ, he, chg_below hb hval, hr I θ⟩⟩

theorem repL_one {own : Nat → Option Own} {zs : Array Value} {x : AV} (h : RepL I own θ w zs.toList [x]) : ∃ v, zs = #[v] ∧ Rep I own θ w v x := by
  obtain ⟨l⟩ := zs
  cases h with
  | cons h1 h2 => cases h2; exact ⟨_, rfl, h1⟩
theorem repL_two {own : Nat → Option Own} {zs : Array Value} {x y : AV} (h : RepL I own θ w zs.toList [x, y]) : ∃ v u, zs = #[v, u] ∧ Rep I own θ w v x ∧ Rep I own θ w u y := by
  obtain ⟨l⟩ := zs
  cases h with
  | cons h1 h2 => cases h2 with
    | cons h3 h4 => cases h4; exact ⟨_, _, rfl, h1, h3⟩
theorem repL_three {own : Nat → Option Own} {zs : Array Value} {x y z : AV} (h : RepL I own θ w zs.toList [x, y, z]) : ∃ v u t, zs = #[v, u, t] ∧ Rep I own θ w v x ∧ Rep I own θ w u y ∧ Rep I own θ w t z := by
  obtain ⟨l⟩ := zs
  cases h with
  | cons h1 h2 => cases h2 with
    | cons h3 h4 => cases h4 with
      | cons h5 h6 => cases h6; exact ⟨_, _, _, rfl, h1, h3, h5⟩

/-- Bytes as numbers, and back. -/
def bytesL (l : List UInt8) : List Int := l.map fun b => (b.toNat : Int)
def toU8 (s : List Int) : List UInt8 := s.map fun x => UInt8.ofNat x.toNat
theorem bytesI_mk (l : List UInt8) : bytesI ⟨l.toArray⟩ = bytesL l := by simp [bytesI, bytesL]
theorem toU8_bytesI (b : ByteArray) : toU8 (bytesI b) = b.data.toList := by
  simp only [toU8, bytesI, List.map_map]
  conv => rhs; rw [← List.map_id b.data.toList]
  apply List.map_congr_left
  intro x _
  simp
theorem rep_bytes (l : List UInt8) {own : Nat → Option Own} : Rep I own θ w (.string ⟨l.toArray⟩) (.str (bytesL l)) := by
  rw [← bytesI_mk]
  exact .val _ _ (.str _)

/-- What is told of a variable's cell. -/
theorem GOk.at {I : Nat → Nat → Prop} (h : GOk I w) {g : Nat} {cells : List AV} (hg : globA g = some cells) (j : Nat) (hj : j < cells.length) : ∃ u, w.cell? ⟨g, j, none⟩ = some u ∧ RepV I w u (cells.getD j .any) := by
  have := h g cells hg
  obtain ⟨ad, us, he, hs, hI, hc, h1, hr⟩ := Rep.rptr_inv (own := look []) (θ := fun _ => none) (.val _ _ this)
  simp only [Value.pointer.injEq, Option.some.injEq] at he
  subst he
  refine ⟨us j, ?_, hr j hj⟩
  have := hc j hj
  simpa using this
theorem gl_pow : ∀ i, i < 20 → gl2.getD i 0 = ((10 ^ i : Nat) : Int) := by decide
theorem GOk.pow10 {I : Nat → Nat → Prop} (h : GOk I w) : Pow10 w := fun i hi => by
  obtain ⟨u, hu, hr⟩ := h.at (g := 2) (cells := ga2) rfl i (by show i < 20; exact hi)
  rw [hu]
  have e : ga2.getD i .any = .int .u64 ((10 ^ i : Nat) : Int) := by
    rw [← gl_pow i hi]
    have hl : i < gl2.length := hi
    simp [ga2, List.getD, hl]
  rw [e] at hr
  cases hr
  rfl
theorem GOk.err {I : Nat → Nat → Prop} (h : GOk I w) {g : Nat} (hg : globA g = some [.err true]) : ∃ t v, w.cell? ⟨g, 0, none⟩ = some (.iface t v) := by
  obtain ⟨u, hu, hr⟩ := h.at hg 0 (by decide)
  have hr : RepV I w u (.err true) := hr
  cases hr with
  | err1 t v => exact ⟨t, v, hu⟩
end

theorem below_grown (w : World) (k : Nat) (os : Array Obj) : Below w.heap.size w (Sort.grow (w.drewN k) os) := Lib.below_grow _ w (Nat.le_refl _) k os

noncomputable def x_Itoa (n : Int) : Option (List Int) := chk (0 ≤ n ∧ n < 9223372036854775808) (some (bytesL (Lib.decDigits n.toNat)))
theorem xok_Itoa (n : Int) (r : List Int) (h : x_Itoa n = some r) : Spec Tryd.prog 48 [.int .i64 n] [] (.str r) [] := by
  obtain ⟨⟨h0, h1⟩, h⟩ := chk_some h
  obtain rfl := Option.some.inj h
  refine spec_of_below (enters_of Tryd.func48 (by kernel_rfl) rfl) fun w I θ zs hargs hval hg => ?_
  obtain ⟨v, rfl, hv⟩ := repL_one hargs
  obtain rfl := hv.int_inv
  have := w_Itoa n.toNat (by omega) w hg.pow10
  rw [Int.toNat_of_nonneg h0] at this
  exact this.mono fun e w' ⟨he, k, os, hw⟩ => ⟨_, he, fun I θ => rep_bytes _, by rw [hw]; exact below_grown w k os⟩

noncomputable def x_FormatUint (n base : Int) : Option (List Int) := chk (base = 10 ∧ 0 ≤ n ∧ n < 18446744073709551616) (some (bytesL (Lib.decDigits n.toNat)))
theorem xok_FormatUint (n base : Int) (r : List Int) (h : x_FormatUint n base = some r) : Spec Tryd.prog 24 [.int .u64 n, .int .i64 base] [] (.str r) [] := by
  obtain ⟨⟨hb, h0, h1⟩, h⟩ := chk_some h
  obtain rfl := Option.some.inj h
  subst hb
  refine spec_of_below (enters_of Tryd.func24 (by kernel_rfl) rfl) fun w I θ zs hargs hval hg => ?_
  obtain ⟨v, u, rfl, hv, hu⟩ := repL_two hargs
  obtain rfl := hv.int_inv
  obtain rfl := hu.int_inv
  have := w_FormatUintP n.toNat (by omega) w hg.pow10
  rw [Int.toNat_of_nonneg h0] at this
  exact this.mono fun e w' ⟨he, k, os, hw⟩ => ⟨_, he, fun I θ => rep_bytes _, by rw [hw]; exact below_grown w k os⟩

noncomputable def x_ParseUint (s : List Int) (base bits : Int) : Option (Int × Bool) :=
  chk (base = 10 ∧ (bits = 31 ∨ bits = 64) ∧ (s.length : Int) ≤ 281474976710656) (some (numEnd (if bits = 31 then 2147483647 else 18446744073709551615) (Lib.parseUintB bits.toNat (toU8 s))))
theorem xok_ParseUint (s : List Int) (base bits : Int) (r : Int × Bool) (h : x_ParseUint s base bits = some r) : Spec Tryd.prog 85 [.str s, .int .i64 base, .int .i64 bits] [] (.tuple [.int .u64 r.1, .err r.2]) [] := by
  obtain ⟨⟨hb, hbits, hlen⟩, h⟩ := chk_some h
  obtain rfl := Option.some.inj h
  subst hb
  refine spec_of_below (enters_of Tryd.func85 (by kernel_rfl) rfl) fun w I θ zs hargs hval hg => ?_
  obtain ⟨v, u, t, rfl, hv, hu, ht⟩ := repL_three hargs
  obtain ⟨b, rfl, rfl⟩ := hv.str_inv
  obtain rfl := hu.int_inv
  obtain rfl := ht.int_inv
  have hsz : b.size ≤ 281474976710656 := by rw [bytesI_length] at hlen; omega
  have hfin : ∀ (M : Int) (r : Lib.NumEnd Nat), (Calls Tryd.prog 85 #[.string b, .int .i64 10, .int .i64 bits] w fun e w' => ∃ y, e = .returned (.tuple #[.int .u64 (numEnd M r).1, y]) ∧ IsErr (numEnd M r).2 y ∧ Below w.heap.size w w') →
      Calls Tryd.prog 85 #[.string b, .int .i64 10, .int .i64 bits] w fun e w' => ∃ v, e = .returned v ∧ (∀ I θ, Rep I (look []) θ w' v (.tuple [.int .u64 (numEnd M r).1, .err (numEnd M r).2])) ∧ Below w.heap.size w w' := fun M r hc =>
    hc.mono fun e w' ⟨y, he, hy, hbl⟩ => ⟨_, he, fun I θ => .tuple _ _ rfl (fun j hj => by
      match j, hj with
      | 0, _ => exact .val _ _ (.int _ _)
      | 1, _ =>
        show Rep I (look []) θ w' y (.err (numEnd M r).2)
        revert hy
        cases (numEnd M r).2 with
        | true => rintro ⟨t, x, rfl⟩; exact .val _ _ (.err1 t x)
        | false => intro hy; obtain rfl : y = .nilIface := hy; exact .val _ _ .err0), hbl⟩
  rw [toU8_bytesI]
  rcases hbits with rfl | rfl
  · exact hfin _ _ (w_Parse b 31 2147483647 (fun w => w_Parse31 b (by omega) w) hsz w (hg.err rfl) (hg.err rfl))
  · exact hfin _ _ (w_Parse b 64 18446744073709551615 (fun w => w_Parse64I b (by omega) w) hsz w (hg.err rfl) (hg.err rfl))

/-- Texts with another one between. -/
def joinI (xs : List (List Int)) (sep : List Int) : List Int := sep.intercalate xs
theorem join_bytes (l : List (List UInt8)) (s : List UInt8) : bytesL (Lib.join l s) = joinI (l.map bytesL) (bytesL s) := by
  unfold Lib.join joinI List.intercalate
  have e : ∀ (l : List (List UInt8)), (List.intersperse s l).map bytesL = List.intersperse (bytesL s) (l.map bytesL) := by
    intro l
    induction l with
    | nil => rfl
    | cons x l ih =>
      cases l with
      | nil => rfl
      | cons y l => simp only [List.intersperse, List.map_cons] at ih ⊢; rw [ih]
  rw [← e]
  simp only [bytesL, List.map_flatten]
  rfl
noncomputable def x_Join (xs : List (List Int)) (sep : List Int) : Option (List Int) := chk (xs.length ≤ 140737488355328 ∧ (joinI xs sep).length ≤ 140737488355328) (some (joinI xs sep))
theorem exists_bytes {I : Nat → Nat → Prop} {w : World} (xs : List (List Int)) (us : Nat → Value) (h : ∀ i, i < xs.length → RepV I w (us i) (.str (xs.getD i []))) :
    ∃ bs : List ByteArray, bs.map (fun b => bytesI b) = xs ∧ ∀ (i : Nat) b, bs[i]? = some b → us i = .string b := by
  induction xs generalizing us with
  | nil => exact ⟨[], rfl, fun i b hb => by simp at hb⟩
  | cons x xs ih =>
    obtain ⟨bs, h1, h2⟩ := ih (fun i => us (i + 1)) (fun i hi => by simpa using h (i + 1) (by simpa using hi))
    have h0 := h 0 (by simp)
    simp only [List.getD_cons_zero] at h0
    generalize hu : us 0 = u0 at h0
    cases h0 with
    | str s =>
      refine ⟨s :: bs, by simp [h1], fun i b hb => ?_⟩
      cases i with
      | zero => simp at hb; rw [hu, hb]
      | succ i => exact h2 i b (by simpa using hb)
theorem xok_Join (xs : List (List Int)) (sep : List Int) (r : List Int) (h : x_Join xs sep = some r) : Spec Tryd.prog 46 [AV.list 1 (fun x => [.str x]) ([] : List Int) xs .none, .str sep] [] (.str r) [] := by
  obtain ⟨⟨hn, hlen⟩, h⟩ := chk_some h
  obtain rfl := Option.some.inj h
  refine spec_of_below (enters_of Tryd.func46 (by kernel_rfl) rfl) fun w I θ zs hargs hval hg => ?_
  obtain ⟨v, u, rfl, hv, hu⟩ := repL_two hargs
  obtain ⟨sp, rfl, rfl⟩ := hu.str_inv
  obtain ⟨_, a, cap, us, rfl, hcap, hmax, hz, hnn, h1, hl, hr⟩ := hv.slice_val.slice_inv
  obtain ⟨bs, hb1, hb2⟩ := exists_bytes xs us (fun i hi => by simpa using hr i 0 hi (by omega))
  have hbl : bs.length = xs.length := by rw [← hb1, List.length_map]
  have hj : joinI xs (bytesI sp) = bytesL (Lib.join (bs.map (·.data.toList)) sp.data.toList) := by
    rw [join_bytes, ← hb1, List.map_map]
    rfl
  by_cases h0 : xs = []
  · subst h0
    have hbs : bs = [] := List.eq_nil_of_length_eq_zero (by simpa using hbl)
    subst hbs
    refine (Any.strings_Join_none (P := Tryd.prog) lays156 Builder_Extra_156 a cap sp w).mono fun e w' ⟨he, hw⟩ => ⟨_, he, fun I θ => ?_, by rw [hw]; exact Below.refl _ _⟩
    exact rep_bytes []
  · have hp : 0 < xs.length := List.length_pos_iff.2 h0
    obtain ⟨b, rfl, hs, hI, hc⟩ := hz hp
    obtain ⟨bb, bo, bsp⟩ := b
    simp only at hs hI hc
    subst hs
    have hc0 := hc 0 (by omega)
    have hcall := Any.strings_Join (P := Tryd.prog) lays156 Builder_Extra_156 bb bo cap bs sp w (fun j x hx => by
      have hjl : j < xs.length := by rw [← hbl]; exact (List.getElem?_eq_some_iff.1 hx).1
      rw [hc j (by omega), hb2 j x hx]) (cell_lt hc0) (by omega) (by omega) (by
        have : (joinI xs (bytesI sp)).length = (Lib.join (bs.map (·.data.toList)) sp.data.toList).length := by rw [hj, bytesL, List.length_map]
        omega)
    rw [hbl] at hcall
    refine hcall.mono fun e w' ⟨he, hw⟩ => ⟨_, he, fun I θ => ?_, hw⟩
    rw [hj]
    exact rep_bytes _

section
variable {I : Nat → Nat → Prop} {θ : Nat → Option (Nat × Nat)} {w w' : World} {own : Nat → Option Own}

/-- A row is written over. -/
theorem chg_row (hrel : OwnRel I own θ w) (hval : ∀ b o, I b o → ∃ u, w.cell? ⟨b, o, none⟩ = some u) {nm g c : Nat} {e : TypeId} {cells cells' : List AV} {vs vs' : Array Value} (hown : own nm = some (.row e cells)) (hg : θ nm = some (g, c)) (hh : w.heap[g]? = some (.cells vs e (0, 0)))
    (hc : CellsOK I own θ w vs' cells') : Chg own θ I w (ownUp own nm (.row e cells')) θ I (w.setRow g vs') := by
  obtain ⟨g', c', vs2, hg', hh', _, _, _, hnI⟩ := hrel.row nm e cells hown
  rw [hg] at hg'
  simp only [Option.some.injEq, Prod.mk.injEq] at hg'
  obtain ⟨rfl, rfl⟩ := hg'
  have hother : ∀ b, b ≠ g → (w.setRow g vs').heap[b]? = w.heap[b]? := fun b hb => setRow_other w g b _ hb
  have hcell : ∀ b j, I b j → (w.setRow g vs').cell? ⟨b, j, none⟩ = w.cell? ⟨b, j, none⟩ := fun b j hi => World.cell?_of_block (a := ⟨b, j, none⟩) (hother b (by rintro rfl; exact hnI j hi))
  have hle : ∀ nm' o, own nm' = some o → ∃ o', ownUp own nm (.row e cells') nm' = some o' ∧ OwnLe o (θ nm') o' (θ nm') := fun nm' o ho => by
    by_cases hne : nm' = nm
    · subst hne
      rw [hown] at ho
      obtain rfl := Option.some.inj ho
      exact ⟨.row e cells', by simp [ownUp], rfl, rfl⟩
    · exact ⟨o, by simp [ownUp, hne, ho], .refl _ _⟩
  have hmono : ∀ v x, Rep I own θ w v x → Rep I (ownUp own nm (.row e cells')) θ (w.setRow g vs') v x := fun v x h => h.mono (fun _ _ h => h) hcell hle
  refine { imm := fun _ _ h => h, cell := hcell, le := hle, rel := ?_, valid := fun b j hi => ?_, os := rfl, tape := rfl, output := rfl, grow := by simp, frame := fun b hb hn => hother b ?_,
           new := fun nm' g' c' ho hg' => ?_, immNew := fun b o h => .inl h }
  · refine ownRel_upd hrel (· = nm) hmono (fun nm' hne => ⟨by simp [ownUp, hne], rfl⟩) (fun nm' g' c' hne ho hg' => ⟨hother g' ?_, fun j h => h⟩) ?_ ?_ ?_ (fun _ _ h h' => h.trans h'.symm) (hobj' := fun _ _ h => h.mono (fun _ _ h => h) hcell)
    · rintro rfl
      exact hne (hrel.inj nm' nm _ _ _ ho (by simp [hown]) hg' hg)
    · rintro nm' e' cells2 rfl ho
      simp only [ownUp, if_true, Option.some.injEq, Own.row.injEq] at ho
      obtain ⟨rfl, rfl⟩ := ho
      exact ⟨g, c, _, hg, setRow_heap w g vs _ e _ hh, ⟨hc.size, hc.one, fun j hj => hmono _ _ (hc.rep j hj)⟩, hnI⟩
    · rintro nm' sz e' m rfl ho
      simp [ownUp] at ho
    · rintro nm' nm'' g' c1 c2 rfl hne _ ho' hg1 hg2
      exact hne (hrel.inj nm'' nm' _ _ _ ho' (by simp [hown]) hg2 hg1)
  · obtain ⟨u, hu⟩ := hval b j hi
    exact ⟨u, (hcell b j hi).trans hu⟩
  · rintro rfl
    exact hn nm c (by simp [hown]) hg
  · refine .inr ⟨nm', c', ?_, hg'⟩
    by_cases hne : nm' = nm
    · subst hne; simp [hown]
    · simpa [ownUp, hne] using ho
end

theorem enters_copyCheck : ∀ (zs : Array Value) (w : World), (callFunc 63 zs).run Tryd.prog w = .ok (.enter 63 zs) w := enters_of Tryd.func63 (by kernel_rfl) rfl
noncomputable def x_copyCheck (l : List Int) : Option (List Int) := some l
/-- A builder that nobody has written to yet. -/
theorem xok_copyCheckN (l r : List Int) (h : x_copyCheck l = some r) :
    Spec Tryd.prog 63 [.ptr 30000 0] [(30000, .row 56 [.nilp, AV.list 1 (fun x => [.int .u8 x]) (0 : Int) l (.own 37001)]), (37001, .tok 1 5 l.length)] (.tuple [])
      [(30000, .row 56 [.ptr 30000 0, AV.list 1 (fun x => [.int .u8 x]) (0 : Int) r (.own 37001)]), (37001, .tok 1 5 r.length)] := by
  obtain rfl := Option.some.inj h
  refine ⟨enters_copyCheck, fun w I θ zs hargs hrel hval hglob => ?_⟩
  generalize hx : AV.list 1 (fun x => [AV.int .u8 x]) (0 : Int) l (.own 37001) = x at *
  generalize ho : Own.tok 1 5 l.length = o at *
  obtain ⟨v, rfl, hv⟩ := repL_one hargs
  obtain ⟨e', cells', g, c, ho', hg, rfl⟩ := hv.ptr_inv
  have hown : look [(30000, Own.row 56 [.nilp, x]), (37001, o)] 30000 = some (.row 56 [.nilp, x]) := rfl
  obtain ⟨g', c', vs, hg', hh, hsz, h1, hrep, hnI⟩ := hrel.row 30000 _ _ hown
  rw [hg] at hg'
  simp only [Option.some.injEq, Prod.mk.injEq] at hg'
  obtain ⟨rfl, rfl⟩ := hg'
  have e0 : vs.getD 0 undef = .pointer none := (hrep 0 (by simp)).nilp_inv
  have hsz : vs.size = 2 := hsz
  have hc0 : w.cell? ⟨g, 0, none⟩ = some (.pointer none) := by rw [cell_of_row w g 0 vs _ (0, 0) hh, agetD_of (by omega), e0]
  refine (Any.Builder_copyCheck_fresh (P := Tryd.prog) { lays165 with } Builder_Extra_165.toX72 g w hc0 (by simp [World.shape?, hh, hsz]; rfl) (by simp [World.frozen?, hh])).mono fun e w' ⟨he, hw⟩ => ?_
  have hw : w' = w.setRow g (vs.setIfInBounds 0 (.pointer (some ⟨g, 0, none⟩))) := by rw [hw]; exact setCell_eq_setRow w g 0 vs _ (0, 0) _ hh
  have hc : CellsOK I (look [(30000, Own.row 56 [.nilp, x]), (37001, o)]) θ w (vs.setIfInBounds 0 (.pointer (some ⟨g, 0, none⟩))) [.ptr 30000 0, x] := by
    refine ⟨by simp [hsz], fun j hj => ?_, fun j hj => ?_⟩
    · match j, hj with
      | 0, _ => simp [Array.getD, hsz, Value.oneCell']
      | 1, _ => have := h1 1 (by simp); simpa [Array.getD, hsz] using this
    · match j, hj with
      | 0, _ =>
        have : (vs.setIfInBounds 0 (.pointer (some ⟨g, 0, none⟩))).getD 0 undef = .pointer (some ⟨g, 0, none⟩) := by simp [Array.getD, hsz]
        rw [this]
        exact .ptr 30000 0 _ _ g c hown hg
      | 1, _ =>
        have : (vs.setIfInBounds 0 (.pointer (some ⟨g, 0, none⟩))).getD 1 undef = vs.getD 1 undef := by simp [Array.getD, hsz]
        rw [this]
        exact hrep 1 (by simp)
  have k := chg_row hrel hval hown hg hh hc
  have eo : ownUp (look [(30000, Own.row 56 [.nilp, x]), (37001, o)]) 30000 (.row 56 [.ptr 30000 0, x]) = look [(30000, Own.row 56 [.ptr 30000 0, x]), (37001, o)] := by
    funext k
    simp only [ownUp, look]
    by_cases hk : k = 30000
    · subst hk; rfl
    · have : Nat.beq 30000 k = false := by cases hb : Nat.beq 30000 k with | false => rfl | true => exact absurd (Nat.eq_of_beq_eq_true hb).symm hk
      simp [hk, this]
  rw [eo] at k
  exact ⟨.tuple #[], I, θ, he, by rw [hw]; exact k, .tuple _ _ rfl (fun j hj => by simp at hj)⟩
/-- One that has been written to. -/
theorem xok_copyCheckP (l r : List Int) (h : x_copyCheck l = some r) :
    Spec Tryd.prog 63 [.ptr 30000 0] [(30000, .row 56 [.ptr 30000 0, AV.list 1 (fun x => [.int .u8 x]) (0 : Int) l (.own 37001)]), (37001, .tok 1 5 l.length)] (.tuple [])
      [(30000, .row 56 [.ptr 30000 0, AV.list 1 (fun x => [.int .u8 x]) (0 : Int) r (.own 37001)]), (37001, .tok 1 5 r.length)] := by
  obtain rfl := Option.some.inj h
  refine ⟨enters_copyCheck, fun w I θ zs hargs hrel hval hglob => ?_⟩
  generalize hx : AV.list 1 (fun x => [AV.int .u8 x]) (0 : Int) l (.own 37001) = x at *
  obtain ⟨v, rfl, hv⟩ := repL_one hargs
  obtain ⟨e', cells', g, c, ho', hg, rfl⟩ := hv.ptr_inv
  have hown : look [(30000, Own.row 56 [.ptr 30000 0, x]), (37001, Own.tok 1 5 l.length)] 30000 = some (.row 56 [.ptr 30000 0, x]) := rfl
  obtain ⟨g', c', vs, hg', hh, hsz, h1, hrep, hnI⟩ := hrel.row 30000 _ _ hown
  rw [hg] at hg'
  simp only [Option.some.injEq, Prod.mk.injEq] at hg'
  obtain ⟨rfl, rfl⟩ := hg'
  have e0 : vs.getD 0 undef = .pointer (some ⟨g, 0, none⟩) := by
    obtain ⟨_, _, g2, c2, _, hg2, he⟩ := (hrep 0 (by simp)).ptr_inv
    rw [hg] at hg2
    simp only [Option.some.injEq, Prod.mk.injEq] at hg2
    obtain ⟨rfl, rfl⟩ := hg2
    exact he
  have hsz : vs.size = 2 := hsz
  have hc0 : w.cell? ⟨g, 0, none⟩ = some (.pointer (some ⟨g, 0, none⟩)) := by rw [cell_of_row w g 0 vs _ (0, 0) hh, agetD_of (by omega), e0]
  refine (Any.Builder_copyCheck_used (P := Tryd.prog) { lays165 with } Builder_Extra_165.toX72 g w hc0).mono fun e w' ⟨he, hw⟩ => ?_
  rw [hw]
  exact ⟨.tuple #[], I, θ, he, .refl hrel hval, .tuple _ _ rfl (fun j hj => by simp at hj)⟩

section
variable {I : Nat → Nat → Prop} {θ : Nat → Option (Nat × Nat)} {w w' : World} {own : Nat → Option Own}

/-- The first elements of a token are frozen. -/
theorem chg_freeze (hrel : OwnRel I own θ w) (hval : ∀ b o, I b o → ∃ u, w.cell? ⟨b, o, none⟩ = some u) {nm g c m : Nat} {e : TypeId} (hown : own nm = some (.tok 1 e m)) (hg : θ nm = some (g, c)) :
    Chg own θ I w own θ I (w.freeze ⟨g, 0, none⟩ m) := by
  by_cases hm : m = 0
  · have : w.freeze ⟨g, 0, none⟩ m = w := by simp [World.freeze, hm]
    rw [this]
    exact .refl hrel hval
  obtain ⟨cur, fz, q1, q2, q3, q4, q5, q6⟩ := hrel.tok nm _ _ _ hown g c hg
  have hother : ∀ b, b ≠ g → (w.freeze ⟨g, 0, none⟩ m).heap[b]? = w.heap[b]? := fun b hb => by
    simp only [World.freeze, hm, if_false, Array.getElem?_modify]
    rw [if_neg (Ne.symm hb)]
  have hthis : ∃ fz', fz' ≤ m ∧ (w.freeze ⟨g, 0, none⟩ m).heap[g]? = some (.cells cur e (0, fz')) := by
    simp only [World.freeze, hm, if_false, Array.getElem?_modify, if_true, q1, Option.map_some]
    by_cases h0 : (0 : Nat) = fz
    · subst h0
      exact ⟨m, Nat.le_refl _, by simp⟩
    · refine ⟨max fz m, by omega, ?_⟩
      have : (0 == fz) = false := by simpa using h0
      simp [this]
  obtain ⟨fz', hfz, hthis⟩ := hthis
  have hcell : ∀ b o, I b o → (w.freeze ⟨g, 0, none⟩ m).cell? ⟨b, o, none⟩ = w.cell? ⟨b, o, none⟩ := fun b o _ => by
    by_cases hb : b = g
    · subst hb
      rw [cell_of_row _ _ _ cur e _ hthis, cell_of_row _ _ _ cur e _ q1]
    · exact World.cell?_of_block (a := ⟨b, o, none⟩) (hother b hb)
  have hmono : ∀ v x, Rep I own θ w v x → Rep I own θ (w.freeze ⟨g, 0, none⟩ m) v x := fun v x h => h.mono (fun _ _ h => h) hcell (fun _ o ho => ⟨o, ho, .refl _ _⟩)
  have hsz : (w.freeze ⟨g, 0, none⟩ m).heap.size = w.heap.size := by simp [World.freeze, hm]
  refine { imm := fun _ _ h => h, cell := hcell, le := fun _ o ho => ⟨o, ho, .refl _ _⟩, rel := ?_, valid := fun b o hi => ?_, os := ?_, tape := ?_, output := ?_, grow := by rw [hsz]; exact Nat.le_refl _, frame := fun b hb hn => hother b ?_,
           new := fun nm' g' c' ho hg' => .inr ⟨nm', c', ho, hg'⟩, immNew := fun b o h => .inl h }
  · refine ownRel_upd hrel (· = nm) hmono (fun nm' _ => ⟨rfl, rfl⟩) (fun nm' g' c' hne ho hg' => ⟨hother g' ?_, fun j h => h⟩) ?_ ?_ ?_ (fun _ _ h h' => h.trans h'.symm) (hobj' := fun _ _ h => h.mono (fun _ _ h => h) hcell) (harr := ?_) (hobj := ?_) (htok8 := ?_)
    · rintro rfl
      exact hne (hrel.inj nm' nm _ _ _ ho (by simp [hown]) hg' hg)
    · rintro nm' e' cells rfl ho
      rw [hown] at ho; cases ho
    · rintro nm' sz e' m' rfl ho g' c' hg'
      rw [hown] at ho
      simp only [Option.some.injEq, Own.tok.injEq] at ho
      obtain ⟨rfl, rfl, rfl⟩ := ho
      rw [hg] at hg'
      simp only [Option.some.injEq, Prod.mk.injEq] at hg'
      obtain ⟨rfl, rfl⟩ := hg'
      exact ⟨cur, fz', hthis, q2, q3, q4, by omega, q6⟩
    · rintro nm' nm'' g' c1 c2 rfl hne _ ho' hg1 hg2
      exact hne (hrel.inj nm'' nm' _ _ _ ho' (by simp [hown]) hg2 hg1)
    · rintro nm' sz e' m' f rfl ho
      rw [hown] at ho; cases ho
    · rintro nm' x rfl ho
      rw [hown] at ho; cases ho
    · rintro nm' sz m' rfl ho hn
      rw [hg] at hn; cases hn
  · obtain ⟨u, hu⟩ := hval b o hi
    exact ⟨u, (hcell b o hi).trans hu⟩
  · simp [World.freeze, hm]
  · simp [World.freeze, hm]
  · simp [World.freeze, hm]
  · rintro rfl
    exact hn nm c (by simp [hown]) hg
theorem chg_drew (hrel : OwnRel I own θ w) (hval : ∀ b o, I b o → ∃ u, w.cell? ⟨b, o, none⟩ = some u) : Chg own θ I w own θ I w.drew :=
  have hmono : ∀ v x, Rep I own θ w v x → Rep I own θ w.drew v x := fun v x h => h.mono (fun _ _ h => h) (fun _ _ _ => rfl) (fun _ o ho => ⟨o, ho, .refl _ _⟩)
  { imm := fun _ _ h => h, cell := fun _ _ _ => rfl, le := fun _ o ho => ⟨o, ho, .refl _ _⟩,
    rel := ⟨fun nm e cells ho => by
              obtain ⟨g, c, vs, r1, r2, r3, r4, r5, r6⟩ := hrel.row nm e cells ho
              exact ⟨g, c, vs, r1, r2, r3, r4, fun j hj => hmono _ _ (r5 j hj), r6⟩, hrel.tok, hrel.inj,
            fun nm sz e m f ho => arr_map (hrel.arr nm sz e m f ho) rfl (fun _ _ _ => rfl) (fun _ _ _ _ h => h) (fun _ _ => rfl) (fun v i j _ _ hv => hmono _ _ hv),
            fun nm x ho => obj_map (hrel.obj nm x ho) rfl (fun _ _ _ => rfl) (fun _ _ _ _ h => h) (fun _ h => h.mono (fun _ _ h => h) (fun _ _ _ => rfl)), hrel.tok8⟩,
    valid := hval, os := rfl, tape := rfl, output := rfl, grow := Nat.le_refl _, frame := fun _ _ _ => rfl, new := fun nm g c ho hg => .inr ⟨nm, c, ho, hg⟩, immNew := fun _ _ h => .inl h }
end

set_option maxHeartbeats 2000000 in
set_option maxRecDepth 100000 in
/-- A builder's bytes as a string. -/
theorem w_String (g b cap : Nat) (p : Value) (cur : Array Value) (fz : Nat × Nat) (l : List UInt8) (h0 : l ≠ []) (w : World) (hbk : w.heap[b]? = some (.cells #[p, .slice (some ⟨g, 0, none⟩) l.length cap] 56 (0, 0)))
    (hg : w.heap[g]? = some (.cells cur 5 fz)) (hlc : l.length ≤ cur.size) (hcap : cap ≠ 0) (h63 : l.length ≤ 9223372036854775807) (hcell : ∀ j x, l[j]? = some x → w.cell? ⟨g, j, none⟩ = some (.int .u8 (x.toNat : Int))) :
    Calls Tryd.prog 25 #[.pointer (some ⟨b, 0, none⟩)] w fun e w' => e = .returned (.string ⟨l.toArray⟩) ∧ w' = w.drew.freeze ⟨g, 0, none⟩ l.length := by
  have c1 : w.drew.cell? ⟨b, 1, none⟩ = some (.slice (some ⟨g, 0, none⟩) l.length cap) := by
    have : w.drew.heap[b]? = some (.cells #[p, .slice (some ⟨g, 0, none⟩) l.length cap] 56 (0, 0)) := hbk
    rw [Lib.cell_of_heap this]; rfl
  have hSD : (Builtin.unsafeSliceData_ #[39] 90 #[.slice (some ⟨g, 0, none⟩) l.length cap]).run Tryd.prog w.drew = .ok (.pointer (some ⟨g, 0, none⟩)) w.drew :=
    Lib.run_unsafeSliceData_row _ _ _ _ _ _ hcap
  have hUS : (Builtin.unsafeString_ #[90, 3] 9 #[.pointer (some ⟨g, 0, none⟩), .int .i64 l.length]).run Tryd.prog w.drew = .ok (.string ⟨l.toArray⟩) (w.drew.freeze ⟨g, 0, none⟩ l.length) := by
    refine Lib.run_unsafeString_row w.drew 90 3 9 5 Tryd.underlying90 (by kernel_rfl) g cur.size (by have hg' : w.drew.heap[g]? = some (.cells cur 5 fz) := hg; simp [World.shape?, hg']) l h0 hlc h63 ?_
    intro j x hx
    rw [Lib.add_plain, Nat.zero_add]
    exact hcell j x hx
  generalize w.drew.freeze ⟨g, 0, none⟩ l.length = W2 at hUS ⊢
  clear hbk hg hcell
  go_enter Tryd.func25, Tryd.ntmps25
  go_wp2
  go_region
  all_goals (go_wp2; go_ret; exact ⟨rfl, rfl⟩)

theorem u8_back {x : Int} (h0 : 0 ≤ x) (h1 : x < 256) : ((UInt8.ofNat x.toNat).toNat : Int) = x := by
  have : x.toNat < 256 := by omega
  simp [Nat.mod_eq_of_lt this]
  omega
theorem toU8_back {l : List Int} (h : ∀ x ∈ l, 0 ≤ x ∧ x < 256) : bytesL (toU8 l) = l := by
  simp only [bytesL, toU8, List.map_map]
  conv => rhs; rw [← List.map_id l]
  apply List.map_congr_left
  intro x hx
  obtain ⟨h0, h1⟩ := h x hx
  exact u8_back h0 h1
noncomputable def x_String (l : List Int) : Option (List Int × List Int) := chk (l ≠ [] ∧ ∀ x ∈ l, 0 ≤ x ∧ x < 256) (some (l, l))
theorem xok_String (l : List Int) (r : List Int × List Int) (h : x_String l = some r) :
    Spec Tryd.prog 25 [.ptr 30000 0] [(30000, .row 56 [.ptr 30000 0, AV.list 1 (fun x => [.int .u8 x]) (0 : Int) l (.own 37001)]), (37001, .tok 1 5 l.length)] (.str r.1)
      [(30000, .row 56 [.ptr 30000 0, AV.list 1 (fun x => [.int .u8 x]) (0 : Int) r.2 (.own 37001)]), (37001, .tok 1 5 r.2.length)] := by
  obtain ⟨⟨h0, hb⟩, h⟩ := chk_some h
  obtain rfl := Option.some.inj h
  refine ⟨enters_of Tryd.func25 (by kernel_rfl) rfl, fun w I θ zs hargs hrel hval hglob => ?_⟩
  obtain ⟨v, rfl, hv⟩ := repL_one hargs
  obtain ⟨e', cells', g, c, ho', hg, rfl⟩ := hv.ptr_inv
  have hown : look [(30000, Own.row 56 [.ptr 30000 0, AV.list 1 (fun x => [.int .u8 x]) (0 : Int) l (.own 37001)]), (37001, Own.tok 1 5 l.length)] 30000 = some (.row 56 [.ptr 30000 0, AV.list 1 (fun x => [.int .u8 x]) (0 : Int) l (.own 37001)]) := rfl
  have htok : look [(30000, Own.row 56 [.ptr 30000 0, AV.list 1 (fun x => [.int .u8 x]) (0 : Int) l (.own 37001)]), (37001, Own.tok 1 5 l.length)] 37001 = some (.tok 1 5 l.length) := rfl
  obtain ⟨g', c', vs, hg', hh, hsz, h1, hrep, hnI⟩ := hrel.row 30000 _ _ hown
  rw [hg] at hg'
  simp only [Option.some.injEq, Prod.mk.injEq] at hg'
  obtain ⟨rfl, rfl⟩ := hg'
  have hsz : vs.size = 2 := hsz
  have hr1 : Rep I _ θ w (vs.getD 1 undef) (AV.list 1 (fun x => [.int .u8 x]) (0 : Int) l (.own 37001)) := hrep 1 (by simp)
  unfold AV.list at hr1
  obtain ⟨ad, cap, hv1, hθ⟩ := hr1.own_inv htok
  have hlp : 0 < l.length := List.length_pos_iff.2 h0
  have hV := hr1.slice_val
  rw [hv1] at hV
  obtain ⟨_, ad2, cap2, us, he2, hcap, hmax, hz, hnn, ho1, hl, hr⟩ := hV.slice_inv
  simp only [Value.slice.injEq, true_and] at he2
  obtain ⟨rfl, rfl⟩ := he2
  obtain ⟨bb, hbb, hs, hI, hc⟩ := hz hlp
  cases hθt : θ 37001 with
  | none =>
    have := hrel.tok8 37001 1 l.length htok hθt
    omega
  | some gc =>
    obtain ⟨gb, cb⟩ := gc
    rw [hθt] at hθ
    simp only at hθ
    obtain ⟨hab, rfl⟩ := hθ
    rw [hab] at hbb
    simp only [Option.some.injEq] at hbb
    subst hbb
    obtain ⟨cur, fz, q1, q2, q3, q4, q5, q6⟩ := hrel.tok 37001 _ _ _ htok gb cap hθt
    have hvs : vs = #[vs.getD 0 undef, .slice (some ⟨gb, 0, none⟩) (toU8 l).length cap] := by
      apply Array.ext
      · simp [hsz]
      · intro i h1' h2'
        match i, h1' with
        | 0, _ => simp [Array.getD, hsz]
        | 1, _ =>
          have : vs.getD 1 undef = vs[1] := by simp [Array.getD, hsz]
          simp [← this, hv1, hab, toU8]
        | i + 2, h1' => omega
    have hlen8 : (toU8 l).length = l.length := by simp [toU8]
    rw [hvs] at hh
    refine (w_String gb g cap _ cur (0, fz) (toU8 l) (by intro hn; apply h0; simpa [toU8] using hn) w hh q1 (by omega) (by omega) (by unfold maxLen at hmax; omega) (fun j x hx => ?_)).mono fun e w' ⟨he, hw⟩ => ?_
    · have hj : j < l.length := by rw [← hlen8]; exact (List.getElem?_eq_some_iff.1 hx).1
      have hcj := hc j (by omega)
      simp only [Nat.zero_add] at hcj
      rw [hcj]
      have hrj := hr j 0 hj (by omega)
      simp only [Nat.mul_one, Nat.add_zero, List.getD_cons_zero] at hrj
      generalize us j = u at hrj
      cases hrj
      have hxl : x = UInt8.ofNat (l.getD j 0).toNat := by
        simp only [toU8, List.getElem?_map, List.getElem?_eq_getElem hj, Option.map_some, Option.some.injEq] at hx
        rw [← hx]
        simp [List.getD, hj]
      have hbj := hb (l.getD j 0) (by rw [List.getD, List.getElem?_eq_getElem hj]; exact List.getElem_mem _)
      subst hxl
      rw [u8_back hbj.1 hbj.2]
    · have k1 := chg_drew hrel hval
      have k2 := chg_freeze k1.rel k1.valid htok hθt
      refine ⟨_, I, θ, he, by rw [hw, hlen8]; exact k1.trans k2, ?_⟩
      have := rep_bytes (I := I) (θ := θ) (w := w') (own := look [(30000, Own.row 56 [.ptr 30000 0, AV.list 1 (fun x => [.int .u8 x]) (0 : Int) l (.own 37001)]), (37001, Own.tok 1 5 l.length)]) (toU8 l)
      rw [toU8_back hb] at this
      exact this
end Go.Proofs.YtcddajbcbkbipaaDoor
