/-
  The contracts of PutOctal, PutBinary and Put, the program's and the document's: both answer the same bytes, or none, and the same bool.
-/
import Derived.Test.YtcedcfagfklohaaKhNumBinary
import Derived.Laws.MakeOwn
import Derived.Deep.OwnRows
set_option linter.unusedVariables false
set_option linter.unusedSimpArgs false
namespace Go.Proofs.Ytcedcfagfklohaa.Hd
open Go.RowKit Go.Lib
attribute [local go_sem ↓] slice_from

theorem u8_info : (Try.prog.info? 5).map (fun i => (i.zero, i.size, i.bytes)) = some (some (.int .u8 0), 1, 1) := by kernel_rfl

/-- Block b is a row of N bytes, cell j holding g j. -/
def RowB (w : World) (b N : Nat) (g : Nat → Int) : Prop := w.rowIs b 5 N (fun j => .int .u8 (g j))
section
variable {w w' : World} {b N : Nat} {g h : Nat → Int}
theorem RowB.cell (r : RowB w b N g) {i : Nat} (hi : i < N) : w.cell? ⟨b, i, none⟩ = some (.int .u8 (g i)) := World.rowIs.cell r hi
theorem RowB.frozen (r : RowB w b N g) (i : Nat) : w.frozen? ⟨b, i, none⟩ = false := World.rowIs.frozen r i
theorem RowB.lt (r : RowB w b N g) : b < w.heap.size := World.rowIs.lt r
theorem RowB.to (r : RowB w b N g) (e : ∀ i, i < N → g i = h i) : RowB w b N h := World.rowIs.congr r fun i hi => by rw [e i hi]
theorem RowB.set (r : RowB w b N g) (i : Nat) (v : Int) : RowB (w.setCell ⟨b, i, none⟩ (.int .u8 v)) b N (fun j => if j = i then v else g j) :=
  (World.rowIs.set r i (.int .u8 v)).congr fun j _ => by
    show (if j = i then _ else _) = Value.int .u8 (if j = i then v else g j)
    split <;> rfl
theorem RowB.made (w : World) (N : Nat) : RowB (w.alloc (.cells (madeCells #[.int .u8 0] N) 5)) w.heap.size N (fun _ => 0) := World.rowIs_made w _ N _
theorem RowB.rd (r : RowB w b N g) (hb : ∀ j, 0 ≤ g j ∧ g j ≤ 255) : Rd w w.heap.size (some ⟨b, 0, none⟩) N (M.listOf g N) := by
  refine ⟨M.listOf_len g N, ?_, fun _ => ⟨b, 0, rfl, r.lt, fun j z hz => ?_⟩⟩
  · intro z hz
    obtain ⟨j, hj, rfl⟩ := List.getElem_of_mem hz
    obtain ⟨_, e⟩ := M.listOf_at (List.getElem?_eq_getElem hj)
    rw [← e]
    exact hb j
  · obtain ⟨hj, rfl⟩ := M.listOf_at hz
    rw [Nat.zero_add]
    exact r.cell hj
end

/-- A put's answer: bytes zs in memory of its own, or nil, and whether there are some. -/
def PutPost (w : World) (ok : Bool) (zs : List Int) (e : Ending) (w' : World) : Prop :=
  ∃ A N, e = .returned (.tuple #[.slice A N N, .bool ok]) ∧ Rd w' w'.heap.size A N zs ∧ Below w.heap.size w w'
theorem PutPost.none_ {w w' : World} (h : Below w.heap.size w w') : PutPost w false [] (.returned (.tuple #[.slice none 0 0, .bool false])) w' :=
  ⟨none, 0, rfl, Rd.none_, h⟩

theorem and7 (v : Int) (h0 : 0 ≤ v) (h1 : v ≤ 4611686018427387904) : bits .and .i64 v 7 = v % 8 := by
  obtain ⟨v, rfl⟩ := Int.eq_ofNat_of_zero_le h0
  have hx : v &&& 7 = v % 8 := Nat.and_two_pow_sub_one_eq_mod v 3
  show IntKind.i64.wrap ((BitVec.ofInt 64 (v : Int) &&& BitVec.ofInt 64 7).toNat : Int) = _
  rw [BitVec.toNat_and, ofInt_i64 v (by omega), show (BitVec.ofInt 64 7).toNat = 7 from rfl, hx, IntKind.wrap_i64]
  omega

theorem octFits_no {n wide : Int} (h : ¬ (2 ≤ wide ∧ wide ≤ 32 ∧ 0 ≤ n ∧ n ≤ 4611686018427387904)) : M.octFits n wide = false := by
  unfold M.octFits M.most
  by_cases h1 : 2 ≤ wide
  · by_cases h2 : wide ≤ 32
    · by_cases h3 : 0 ≤ n
      · have h4 : ¬ n ≤ 4611686018427387904 := fun h4 => h ⟨h1, h2, h3, h4⟩
        simp [h4]
      · simp [h3]
    · simp [h2]
  · simp [h1]
theorem octR_no {n wide : Int} (h : M.octFits n wide = false) : M.octR n wide = [] := by unfold M.octR; rw [h]; rfl
theorem binFits_no {n wide : Int} (h : ¬ (2 ≤ wide ∧ wide ≤ 32)) : M.binFits n wide = false := by
  unfold M.binFits
  by_cases h1 : 2 ≤ wide
  · have h2 : ¬ wide ≤ 32 := fun h2 => h ⟨h1, h2⟩
    simp [h2]
  · simp [h1]
theorem binR_no {n wide : Int} (h : M.binFits n wide = false) : M.binR n wide = [] := by unfold M.binR; rw [h]; rfl

end Go.Proofs.Ytcedcfagfklohaa.Hd
