/-
  bytes.Trim at this program, laid by the shelf's own tool in plain words.
-/
import Derived.Shelf.Bytes.SlTrim
import Derived.Ground.SlbvProg
import Derived.Test.YtkpnhggpcpjddaaDoorProg
namespace Go.Proofs
open Go.Shelf
def Tryd.trimL_ren : Go.Shelf.Ren := ⟨fun | 6 => 56 | 10 => 71 | 9 => 70 | 11 => 72 | 13 => 74 | 12 => 73 | 15 => 76 | 14 => 75 | 16 => 83 | 19 => 86 | 18 => 85 | 17 => 84 | 21 => 94 | 20 => 93 | n => n, fun | 22 => 22 | 9 => 9 | 3 => 3 | 4 => 4 | 5 => 5 | 28 => 101 | 27 => 100 | 0 => 0 | 31 => 104 | 21 => 21 | 33 => 108 | 36 => 115 | 37 => 105 | 40 => 118 | 39 => 117 | n => n, fun | 0 => 2 | 1 => 3 | n => n⟩
theorem Tryd.trimL : Go.Proofs.SlLaysV.n6 Tryd.prog Tryd.trimL_ren := {
  mixed := by kernel_rfl
  f6 := Tryd.func56.trans (congrArg some (by kernel_rfl))
  f9 := Tryd.func70.trans (congrArg some (by kernel_rfl))
  f10 := Tryd.func71.trans (congrArg some (by kernel_rfl))
  f11 := Tryd.func72.trans (congrArg some (by kernel_rfl))
  f12 := Tryd.func73.trans (congrArg some (by kernel_rfl))
  f13 := Tryd.func74.trans (congrArg some (by kernel_rfl))
  f14 := Tryd.func75.trans (congrArg some (by kernel_rfl))
  f15 := Tryd.func76.trans (congrArg some (by kernel_rfl))
  f16 := Tryd.func83.trans (congrArg some (by kernel_rfl))
  f17 := Tryd.func84.trans (congrArg some (by kernel_rfl))
  f18 := Tryd.func85.trans (congrArg some (by kernel_rfl))
  f19 := Tryd.func86.trans (congrArg some (by kernel_rfl))
  f20 := Tryd.func93.trans (congrArg some (by kernel_rfl))
  f21 := Tryd.func94.trans (congrArg some (by kernel_rfl))
  t0 := Tryd.underlying0
  a0 := Tryd.isAgg0
  z0 := Tryd.sizeOf0
  v0 := Tryd.zeroValue0
  t3 := Tryd.underlying3
  a3 := Tryd.isAgg3
  z3 := Tryd.sizeOf3
  v3 := Tryd.zeroValue3
  t4 := Tryd.underlying4
  a4 := Tryd.isAgg4
  z4 := Tryd.sizeOf4
  v4 := Tryd.zeroValue4
  t5 := Tryd.underlying5
  a5 := Tryd.isAgg5
  z5 := Tryd.sizeOf5
  v5 := Tryd.zeroValue5
  t9 := Tryd.underlying9
  a9 := Tryd.isAgg9
  z9 := Tryd.sizeOf9
  v9 := Tryd.zeroValue9
  t21 := Tryd.underlying21
  a21 := Tryd.isAgg21
  z21 := Tryd.sizeOf21
  v21 := Tryd.zeroValue21
  t22 := Tryd.underlying22
  a22 := Tryd.isAgg22
  z22 := Tryd.sizeOf22
  v22 := Tryd.zeroValue22
  t27 := Tryd.underlying100
  a27 := Tryd.isAgg100
  z27 := Tryd.sizeOf100
  t28 := Tryd.underlying101
  a28 := Tryd.isAgg101
  z28 := Tryd.sizeOf101
  v28 := Tryd.zeroValue101
  t31 := Tryd.underlying104
  a31 := Tryd.isAgg104
  z31 := Tryd.sizeOf104
  v31 := Tryd.zeroValue104
  t33 := Tryd.underlying108
  a33 := Tryd.isAgg108
  z33 := Tryd.sizeOf108
  v33 := Tryd.zeroValue108
  t36 := Tryd.underlying115
  a36 := Tryd.isAgg115
  z36 := Tryd.sizeOf115
  t37 := Tryd.underlying105
  a37 := Tryd.isAgg105
  z37 := Tryd.sizeOf105
  v37 := Tryd.zeroValue105
  t39 := Tryd.underlying117
  a39 := Tryd.isAgg117
  z39 := Tryd.sizeOf117
  v39 := Tryd.zeroValue117
  t40 := Tryd.underlying118
  a40 := Tryd.isAgg118
  z40 := Tryd.sizeOf118
  v40 := Tryd.zeroValue118 }
end Go.Proofs
