/-
  Headers as plain data: what a block tells, and how one is laid. No program.
-/
import Derived.Test.YtjpflljmeaihgaaDoorPNumMathB
namespace Go.Proofs.YtjpflljmeaihgaaDoor.H
namespace M

/-- Bytes at a place. -/
def sub (zs : List Int) (at_ n : Nat) : List Int := (zs.drop at_).take n
theorem sub_len {zs : List Int} {a n : Nat} (h : a + n ≤ zs.length) : (sub zs a n).length = n := by
  unfold sub
  rw [List.length_take, List.length_drop]
  omega
theorem sub_bd {zs : List Int} {a n : Nat} (h : ∀ z ∈ zs, 0 ≤ z ∧ z ≤ 255) : ∀ z ∈ sub zs a n, 0 ≤ z ∧ z ≤ 255 :=
  fun z hz => h z (List.mem_of_mem_drop (List.mem_of_mem_take hz))
/-- A number that a field tells; may it be? -/
def num (zs : List Int) (a n : Nat) : Int := parN (sub zs a n)
def numOk (zs : List Int) (a n : Nat) (lo up : Int) : Bool := parOk (sub zs a n) && (decide (lo ≤ num zs a n) && decide (num zs a n ≤ up))

/-- A byte at a place. -/
def byt (zs : List Int) (a : Nat) : Int := zs.getD a 0
/-- Parts from a place on: n of them at most; none: some may not be. -/
def parts (zs : List Int) : Nat → Nat → Option (List (Int × Int))
  | _, 0 => some []
  | a, n + 1 =>
    if zs.length < a + 24 then none
    else if numOk zs a 12 0 most && numOk zs (a + 12) 12 0 most then
      if num zs a 12 = 0 ∧ num zs (a + 12) 12 = 0 then some [] else (parts zs (a + 24) n).map ((num zs a 12, num zs (a + 12) 12) :: ·)
    else none
def clip (x : Int) (up : Nat) : Nat := (min (max x 0) up).toNat

end M
end Go.Proofs.YtjpflljmeaihgaaDoor.H
