/-
  head.Parts.
-/
import Derived.Test.YtcedcfagfklohaaKhHdPartsM
import Derived.LoopN
set_option linter.unusedVariables false
set_option linter.unusedSimpArgs false
namespace Go.Proofs.Ytcedcfagfklohaa.Hd
open Go.RowKit Go.Lib

namespace M
theorem parts_short {zs : List Int} {a0 n0 x r : Nat} {acc : List (Int × Int)} (h : parts zs a0 n0 = (parts zs x (r + 1)).map (acc ++ ·)) (hl : zs.length < x + 24) : parts zs a0 n0 = none := by
  rw [h, parts, if_pos hl]; rfl
theorem parts_bad {zs : List Int} {a0 n0 x r : Nat} {acc : List (Int × Int)} (h : parts zs a0 n0 = (parts zs x (r + 1)).map (acc ++ ·)) (hl : ¬ zs.length < x + 24) (hk : (numOk zs x 12 0 most && numOk zs (x + 12) 12 0 most) = false) : parts zs a0 n0 = none := by
  rw [h, parts, if_neg hl, hk]; rfl
theorem parts_zero {zs : List Int} {a0 n0 x r : Nat} {acc : List (Int × Int)} (h : parts zs a0 n0 = (parts zs x (r + 1)).map (acc ++ ·)) (hl : ¬ zs.length < x + 24) (hk : (numOk zs x 12 0 most && numOk zs (x + 12) 12 0 most) = true)
    (hz : num zs x 12 = 0 ∧ num zs (x + 12) 12 = 0) : parts zs a0 n0 = some acc := by
  rw [h, parts, if_neg hl, hk, if_pos rfl, if_pos hz]; simp
theorem parts_next {zs : List Int} {a0 n0 x r : Nat} {acc : List (Int × Int)} (h : parts zs a0 n0 = (parts zs x (r + 1)).map (acc ++ ·)) (hl : ¬ zs.length < x + 24) (hk : (numOk zs x 12 0 most && numOk zs (x + 12) 12 0 most) = true)
    (hz : ¬ (num zs x 12 = 0 ∧ num zs (x + 12) 12 = 0)) : parts zs a0 n0 = (parts zs (x + 24) r).map ((acc ++ [(num zs x 12, num zs (x + 12) 12)]) ++ ·) := by
  rw [h, parts, if_neg hl, hk, if_pos rfl, if_neg hz, Option.map_map]
  congr 1
  funext l
  simp
end M

theorem PL.next1 {w0 w w' : World} {v : Value} {l : List (Int × Int)} {q : Int × Int} {A : Option Addr} {c : Nat} (p : PL w0 w v l) (ho : OwnP w' (w0.heap.size + 2) (.slice A (l ++ [q]).length c) (l ++ [q])) (hb : Below (w0.heap.size + 2) w w') :
    PL w0 (w'.setCell ⟨w0.heap.size, 0, none⟩ (.slice A (l.length + 1) c)) (.slice A (l.length + 1) c) (l ++ [q]) := by
  rw [List.length_append, List.length_singleton] at ho
  exact p.next ho hb
/-- The rounds of Parts: k are done. -/
def PartsAt (w : World) (zs : List Int) (a0 n0 : Nat) (x i : Value) (wr : World) : Prop :=
  ∃ (k : Nat) (acc : List (Int × Int)) (v : Value), i = .int .i64 k ∧ k ≤ n0 ∧ x = .int .i64 ((a0 + 24 * k : Nat) : Int) ∧ Hid (M.parts zs a0 n0 = (M.parts zs (a0 + 24 * k) (n0 - k)).map (acc ++ ·)) ∧ acc.length ≤ k ∧ Hid (PL w wr v acc)

end Go.Proofs.Ytcedcfagfklohaa.Hd
