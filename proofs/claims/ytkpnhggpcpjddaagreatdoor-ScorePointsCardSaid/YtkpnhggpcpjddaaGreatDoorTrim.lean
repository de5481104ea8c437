/-
  bytes.Trim at this program, laid by the shelf's own tool in plain words.
-/
import Derived.Shelf.Bytes.SlTrim
import Derived.Ground.SlbvProg
import Derived.Test.YtkpnhggpcpjddaaGreatDoorProg
namespace Go.Proofs
open Go.Shelf
def Tryz.trimL_ren : Go.Shelf.Ren := ⟨fun | 6 => 74 | 10 => 93 | 9 => 92 | 11 => 94 | 13 => 96 | 12 => 95 | 15 => 98 | 14 => 97 | 16 => 105 | 19 => 108 | 18 => 107 | 17 => 106 | 21 => 116 | 20 => 115 | n => n, fun | 22 => 22 | 9 => 9 | 3 => 3 | 4 => 4 | 5 => 5 | 28 => 108 | 27 => 107 | 0 => 0 | 31 => 111 | 21 => 21 | 33 => 116 | 36 => 124 | 37 => 113 | 40 => 127 | 39 => 126 | n => n, fun | 0 => 2 | 1 => 3 | n => n⟩
theorem Tryz.trimL : Go.Proofs.SlLaysV.n6 Tryz.prog Tryz.trimL_ren := {
  mixed := by kernel_rfl
  f6 := Tryz.func74.trans (congrArg some (by kernel_rfl))
  f9 := Tryz.func92.trans (congrArg some (by kernel_rfl))
  f10 := Tryz.func93.trans (congrArg some (by kernel_rfl))
  f11 := Tryz.func94.trans (congrArg some (by kernel_rfl))
  f12 := Tryz.func95.trans (congrArg some (by kernel_rfl))
  f13 := Tryz.func96.trans (congrArg some (by kernel_rfl))
  f14 := Tryz.func97.trans (congrArg some (by kernel_rfl))
  f15 := Tryz.func98.trans (congrArg some (by kernel_rfl))
  f16 := Tryz.func105.trans (congrArg some (by kernel_rfl))
  f17 := Tryz.func106.trans (congrArg some (by kernel_rfl))
  f18 := Tryz.func107.trans (congrArg some (by kernel_rfl))
  f19 := Tryz.func108.trans (congrArg some (by kernel_rfl))
  f20 := Tryz.func115.trans (congrArg some (by kernel_rfl))
  f21 := Tryz.func116.trans (congrArg some (by kernel_rfl))
  t0 := Tryz.underlying0
  a0 := Tryz.isAgg0
  z0 := Tryz.sizeOf0
  v0 := Tryz.zeroValue0
  t3 := Tryz.underlying3
  a3 := Tryz.isAgg3
  z3 := Tryz.sizeOf3
  v3 := Tryz.zeroValue3
  t4 := Tryz.underlying4
  a4 := Tryz.isAgg4
  z4 := Tryz.sizeOf4
  v4 := Tryz.zeroValue4
  t5 := Tryz.underlying5
  a5 := Tryz.isAgg5
  z5 := Tryz.sizeOf5
  v5 := Tryz.zeroValue5
  t9 := Tryz.underlying9
  a9 := Tryz.isAgg9
  z9 := Tryz.sizeOf9
  v9 := Tryz.zeroValue9
  t21 := Tryz.underlying21
  a21 := Tryz.isAgg21
  z21 := Tryz.sizeOf21
  v21 := Tryz.zeroValue21
  t22 := Tryz.underlying22
  a22 := Tryz.isAgg22
  z22 := Tryz.sizeOf22
  v22 := Tryz.zeroValue22
  t27 := Tryz.underlying107
  a27 := Tryz.isAgg107
  z27 := Tryz.sizeOf107
  t28 := Tryz.underlying108
  a28 := Tryz.isAgg108
  z28 := Tryz.sizeOf108
  v28 := Tryz.zeroValue108
  t31 := Tryz.underlying111
  a31 := Tryz.isAgg111
  z31 := Tryz.sizeOf111
  v31 := Tryz.zeroValue111
  t33 := Tryz.underlying116
  a33 := Tryz.isAgg116
  z33 := Tryz.sizeOf116
  v33 := Tryz.zeroValue116
  t36 := Tryz.underlying124
  a36 := Tryz.isAgg124
  z36 := Tryz.sizeOf124
  t37 := Tryz.underlying113
  a37 := Tryz.isAgg113
  z37 := Tryz.sizeOf113
  v37 := Tryz.zeroValue113
  t39 := Tryz.underlying126
  a39 := Tryz.isAgg126
  z39 := Tryz.sizeOf126
  v39 := Tryz.zeroValue126
  t40 := Tryz.underlying127
  a40 := Tryz.isAgg127
  z40 := Tryz.sizeOf127
  v40 := Tryz.zeroValue127 }
end Go.Proofs
