/-
  Headers as plain data: what a block tells, and how one is laid. No program.
-/
import Derived.Test.YtcedcfagfklohaaKhNumZ
import Derived.Test.YtcedcfagfklohaaKhPutZ
set_option linter.unusedVariables false
set_option linter.unusedSimpArgs false
namespace Go.Proofs.Ytcedcfagfklohaa.Hd
namespace M

/-- A header's fields. -/
structure Hdr where
  name : ByteArray := ⟨#[]⟩
  mode : Int := 0
  uid : Int := 0
  gid : Int := 0
  size : Int := 0
  mtime : Int := 0
  kind : Int := 0
  link : ByteArray := ⟨#[]⟩
  way : Int := 0
  user : ByteArray := ⟨#[]⟩
  group : ByteArray := ⟨#[]⟩
  major : Int := 0
  minor : Int := 0
  pre : ByteArray := ⟨#[]⟩
  parts : List (Int × Int) := []
  more : Bool := false
  real : Int := 0

/-- Numbers as bytes. -/
def toB (zs : List Int) : List UInt8 := zs.map fun z => UInt8.ofNat z.toNat
theorem toB_len (zs : List Int) : (toB zs).length = zs.length := by simp [toB]
theorem ints_toB {zs : List Int} (h : ∀ z ∈ zs, 0 ≤ z ∧ z ≤ 255) : S.ints (toB zs) = zs := by
  unfold S.ints toB
  rw [List.map_map]
  conv => rhs; rw [← List.map_id zs]
  refine List.map_congr_left fun z hz => ?_
  have := h z hz
  show (((UInt8.ofNat z.toNat).toNat : Nat) : Int) = z
  rw [UInt8.toNat_ofNat']
  omega
theorem toB_ints (l : List UInt8) : toB (S.ints l) = l := by
  unfold S.ints toB
  rw [List.map_map]
  conv => rhs; rw [← List.map_id l]
  refine List.map_congr_left fun b _ => ?_
  simp
theorem toB_app (a b : List Int) : toB (a ++ b) = toB a ++ toB b := by simp [toB]

/-- Bytes at a place. -/
def sub (zs : List Int) (at_ n : Nat) : List Int := (zs.drop at_).take n
theorem sub_len {zs : List Int} {a n : Nat} (h : a + n ≤ zs.length) : (sub zs a n).length = n := by
  unfold sub
  rw [List.length_take, List.length_drop]
  omega
theorem sub_bd {zs : List Int} {a n : Nat} (h : ∀ z ∈ zs, 0 ≤ z ∧ z ≤ 255) : ∀ z ∈ sub zs a n, 0 ≤ z ∧ z ≤ 255 :=
  fun z hz => h z (List.mem_of_mem_drop (List.mem_of_mem_take hz))
/-- A text that a field tells. -/
def txt (zs : List Int) (a n : Nat) : ByteArray := ⟨(S.M.cut (toB (sub zs a n))).toArray⟩
/-- A number that a field tells; may it be? -/
def num (zs : List Int) (a n : Nat) : Int := parN (sub zs a n)
def numOk (zs : List Int) (a n : Nat) (lo up : Int) : Bool := parOk (sub zs a n) && (decide (lo ≤ num zs a n) && decide (num zs a n ≤ up))

def known (c : Int) : Bool := decide (48 ≤ c) && decide (c ≤ 55) || c == 83 || c == 120 || c == 103 || c == 76 || c == 75
def may (kind way : Int) : Bool := kind != 83 || way == 2
def magic : Nat → List Int
  | 0 => [0, 0, 0, 0, 0, 0, 0, 0]
  | 1 => [117, 115, 116, 97, 114, 0, 48, 48]
  | _ => [117, 115, 116, 97, 114, 32, 32, 0]
def way (zs : List Int) : Option Nat :=
  if zs.length = 512 then
    if sub zs 257 8 = magic 0 then some 0 else if sub zs 257 8 = magic 1 then some 1 else if sub zs 257 8 = magic 2 then some 2 else none
  else none
/-- A byte at a place. -/
def byt (zs : List Int) (a : Nat) : Int := zs.getD a 0
def kind (zs : List Int) : Int := if byt zs 156 = 0 then 48 else byt zs 156

/-- Parts from a place on: n of them at most; none: some may not be. -/
def parts (zs : List Int) : Nat → Nat → Option (List (Int × Int))
  | _, 0 => some []
  | a, n + 1 =>
    if zs.length < a + 24 then none
    else if numOk zs a 12 0 most && numOk zs (a + 12) 12 0 most then
      if num zs a 12 = 0 ∧ num zs (a + 12) 12 = 0 then some [] else (parts zs (a + 24) n).map ((num zs a 12, num zs (a + 12) 12) :: ·)
    else none
def clip (x : Int) (up : Nat) : Nat := (min (max x 0) up).toNat

/-- The texts, one behind the other. -/
def tx (zs : List Int) (h : Hdr) (k : Nat) : Hdr :=
  { h with
    name := if 1 ≤ k then txt zs 0 100 else h.name
    link := if 2 ≤ k then txt zs 157 100 else h.link
    user := if 3 ≤ k ∧ h.way ≠ 0 then txt zs 265 32 else h.user
    group := if 4 ≤ k ∧ h.way ≠ 0 then txt zs 297 32 else h.group
    pre := if 5 ≤ k ∧ h.way = 1 then txt zs 345 155 else h.pre }
end M
end Go.Proofs.Ytcedcfagfklohaa.Hd
