/-
  What the frames of layer 7 take: rows of bytes that came in, and that their amount is bounded where their bulk is.
-/
import Derived.Test.YtgjafjochgljnaaSumRow
import Derived.Test.YtgjafjochgljnaaSnkRows
import Derived.Test.YtgjafjochgljnaaRows
import Derived.Deep.Matrix
namespace Go.Proofs.Ytgjafjochgljnaa
open Go.RowKit Go.WideShapes Go.ChangeShapes Go.Deep

/-- How much there is: rows, and bytes. -/
def amt (ls : List (List Int)) : Nat := ls.length + (ls.map List.length).sum
theorem bulk_lits {H : Type} (k : IntKind) : ∀ zs : List Int, Rows.uptoBulkAll (lits (H := H) k zs) = zs.length
  | [] => rfl
  | z :: zs => by
    have ih := bulk_lits (H := H) k zs
    unfold lits at ih ⊢
    simp only [List.map_cons, Rows.uptoBulkAll, Rows.uptoBulk, List.length_cons, ih]
    omega
theorem bulk_row {H : Type} (A : Option Addr) (L : Nat) (zs : List Int) (h0 : A = none → L = 0) (hL : L ≤ zs.length) : L + 1 ≤ Rows.uptoBulk (intRow (H := H) .u8 A L zs) := by
  cases A with
  | none =>
    rw [h0 rfl]
    exact Nat.le_of_eq rfl
  | some a =>
    simp only [intRow, Rows.uptoBulk, bulk_lits, List.length_take]
    omega
theorem bulk_rows {H : Type} (D : Nat → DataW H) (V : Nat → List Int) : ∀ is : List Nat, (∀ i ∈ is, (V i).length + 1 ≤ Rows.uptoBulk (D i)) → amt (is.map V) ≤ Rows.uptoBulkAll (is.map D)
  | [], _ => by simp [amt]
  | i :: is, h => by
    have ih := bulk_rows D V is fun j hj => h j (List.mem_cons_of_mem _ hj)
    have h0 := h i (by simp)
    unfold amt at ih ⊢
    simp only [List.map_cons, List.length_cons, List.sum_cons, Rows.uptoBulkAll]
    omega

theorem addr_add (b off k : Nat) : (⟨b, off, none⟩ : Addr).add k = ⟨b, off + k, none⟩ := by
  unfold Addr.add
  split
  · rename_i h0
    subst h0
    rfl
  · rfl

theorem open_rows {H : Type} {enc : TypeId × Value → H} {W : World} {A : Option Addr} {n c : Nat} {d : DataW H} {p : List MemPlace} (h : DataW.Trod enc Try.prog W 0 (fun _ => true) true 33 (.slice A n c) d p) :
    ∃ ls, RdR W W.heap.size A n ls ∧ n ≤ c ∧ c ≤ maxLen ∧ amt ls ≤ Rows.uptoBulk d := by
  obtain ⟨fuel, hf⟩ := h
  rcases open_int_rows Try.underlying33 Try.underlying22 Try.underlying5 (by kernel_rfl) (by kernel_rfl) hf with ⟨hcs, hx⟩ | ⟨a, len, cap, AA, L, C, Z, hcs, _, hl, hm, hx, hi⟩
  · simp [Value.cells] at hcs
    obtain ⟨rfl, rfl, rfl⟩ := hcs
    exact ⟨[], RdR.none_, Nat.le_refl _, Nat.zero_le _, by simp [amt]⟩
  · simp [Value.cells] at hcs
    obtain ⟨rfl, rfl, rfl⟩ := hcs
    simp only [Prod.mk.injEq] at hx
    refine ⟨(List.range n).map fun r => (Z r).take (L r), ⟨by simp, fun k hk => ?_⟩, hl, hm, ?_⟩
    · obtain ⟨hc, hLC, hCm, hZ, hwz, hn, hrow⟩ := hi k (by omega)
      obtain ⟨b, off, spot⟩ := a
      have hspot : spot = none := by
        have h0 := (hi 0 (by omega)).1
        simpa [Addr.add] using World.cell?_spot h0
      subst hspot
      rw [addr_add] at hc
      have hlen : ((Z k).take (L k)).length = L k := by rw [List.length_take]; omega
      refine ⟨b, off, AA k, C k, (Z k).take (L k), rfl, World.block_lt_of_cell? _ _ hc, by rw [List.getElem?_map, List.getElem?_range hk]; rfl, by rw [hlen]; exact hc, ?_, by rw [hlen]; exact hLC, hCm⟩
      have hir : (AA k = none ∧ L k = 0 ∧ C k = 0 ∧ Z k = []) ∨ ∃ x, AA k = some x ∧ L k ≤ C k ∧ C k ≤ maxLen ∧ (Z k).length = C k ∧ (∀ i, i < (Z k).length → W.cell? (x.add i) = some (.int .u8 ((Z k).getD i 0))) ∧ ∀ n ∈ Z k, (Lit.int .u8 n).wf = true := by
        cases hA : AA k with
        | none =>
          have h0 := hn hA
          exact .inl ⟨rfl, by omega, h0, List.eq_nil_of_length_eq_zero (by omega)⟩
        | some x =>
          exact .inr ⟨x, rfl, hLC, hCm, hZ, fun i hi => (hrow x hA).2 i (by omega), hwz⟩
      have := (rd_of_row hir).1
      rw [hlen]
      exact this
    · rw [hx.1]
      have hb := bulk_rows (H := H) (fun r => intRow .u8 (AA r) (L r) (Z r)) (fun r => (Z r).take (L r)) (List.range n) fun i hin => by
        obtain ⟨_, hLC, _, hZ, _, hn, _⟩ := hi i (by have := List.mem_range.1 hin; omega)
        rw [List.length_take, show min (L i) (Z i).length = L i by omega]
        exact bulk_row _ _ _ (fun h => by have := hn h; omega) (by omega)
      simp only [Rows.uptoBulk]
      omega
theorem amt_flat {ls : List (List Int)} {n D : Nat} (hl : ls.length = n) (h : amt ls ≤ D) (hD : D ≤ 2000000) : n + ls.flatten.length ≤ 2000000 := by
  unfold amt at h
  rw [List.length_flatten]
  omega
end Go.Proofs.Ytgjafjochgljnaa
