/-
  The contracts of the laws' helpers: a block of choices; the chapter's examples; both tell the same.
-/
import Derived.Test.YtkpnhggpcpjddaaGreatDoorHSumRefS
set_option linter.unusedVariables false
set_option linter.unusedSimpArgs false
namespace Go.Proofs.YtkpnhggpcpjddaaGreatDoor
open Go.RowKit Go.Lib
attribute [local go_sem ↓] run_make512

namespace M
/-- The block behind k rounds. -/
def blk (zs : List Int) (n : Int) : Nat → List Int
  | 0 => nils 512
  | k + 1 => (blk zs n k).set ((n + 37 * k) % 512).toNat (zs.getD k 0)
theorem blk_len (zs : List Int) (n : Int) : ∀ k, (blk zs n k).length = 512
  | 0 => nils_len _
  | k + 1 => by rw [blk, List.length_set, blk_len zs n k]
theorem blk_bd {zs : List Int} (n : Int) (h : ∀ z ∈ zs, 0 ≤ z ∧ z ≤ 255) : ∀ k, ∀ z ∈ blk zs n k, 0 ≤ z ∧ z ≤ 255
  | 0 => nils_bd _
  | k + 1 => by
    intro z hz
    rcases List.mem_or_eq_of_mem_set hz with h1 | h1
    · exact blk_bd n h k z h1
    · rw [h1]
      by_cases hk : k < zs.length
      · rw [List.getD_eq_getElem?_getD, List.getElem?_eq_getElem hk]
        exact h _ (List.getElem_mem hk)
      · rw [List.getD_eq_getElem?_getD, List.getElem?_eq_none (by omega)]
        decide
/-- The block of choices. -/
def block (zs : List Int) (n : Int) : List Int := blk zs n zs.length
theorem block_len (zs : List Int) (n : Int) : (block zs n).length = 512 := blk_len _ _ _
theorem block_bd {zs : List Int} (n : Int) (h : ∀ z ∈ zs, 0 ≤ z ∧ z ≤ 255) : ∀ z ∈ block zs n, 0 ≤ z ∧ z ≤ 255 := blk_bd n h _
end M

set_option maxRecDepth 100000 in
set_option maxHeartbeats 1000000 in
theorem block_any (A : Option Addr) (n c : Nat) (zs : List Int) (v : Int) (w : World) (B : Nat) (hr : Rd w B A n zs) (hB : B ≤ w.heap.size) (hn : n ≤ 140737488355328) (hv : 0 ≤ v ∧ v ≤ 255) :
    Calls Tryz.prog 7 #[.slice A n c, .int .u8 v] w (SealPost 5 (M.block zs v) w) := by
  obtain ⟨hv0, hv1⟩ := hv
  have HL := hid hr.len
  have HAT := hid (fun (k : Nat) (hk : k < n) => hr.at_ hk)
  have HB : Hid (M.blk zs v n = M.block zs v) := hid (by unfold M.block; rw [hr.len])
  have HBL := hid (fun k => M.blk_len zs v k)
  clear hr
  go_enter Tryz.func7, Tryz.ntmps7
  go_wp2_with fail
  go_loopw [6] (fun i wr => ∃ k : Nat, k ≤ n ∧ i = .int .i64 k ∧ Half w 5 (M.blk zs v k) wr) (fun i _ => n - (intOf i).toNat)
  case atStart => exact ⟨0, Nat.zero_le _, rfl, Arr.new w _ _, (Below.refl _ _).alloc (Nat.le_refl _) _⟩
  case round =>
    obtain ⟨k, hk, rfl, hA, hbel⟩ := hrel
    by_cases hlt : k < n
    · obtain ⟨b, off, z, hAd, hb, hz0, hz1, hzk, hc⟩ := HAT.out k hlt
      have hbB : b < w.heap.size := Nat.lt_of_lt_of_le hb hB
      have hc' : wr.cell? ⟨b, off + k, none⟩ = some (.int .u8 z) := (hbel.cell (p := ⟨b, off + k, none⟩) hbB).trans hc
      have hi0 : 0 ≤ (v + 37 * (k : Int)) % 512 := by omega
      have hi1 : (v + 37 * (k : Int)) % 512 < 512 := by omega
      obtain ⟨y, hy⟩ : ∃ y, (M.blk zs v k)[((v + 37 * (k : Int)) % 512).toNat]? = some y := ⟨_, List.getElem?_eq_getElem (by rw [HBL.out]; omega)⟩
      have hcs := hA.cell hy
      have hfs := hA.frozen ((v + 37 * (k : Int)) % 512).toNat
      have HST : Hid ((M.blk zs v k).set ((v + 37 * (k : Int)) % 512).toNat z = M.blk zs v (k + 1)) := hid (by
        rw [M.blk, List.getD_eq_getElem?_getD, hzk]
        rfl)
      have HA := hid hA
      clear hA hy hzk hc
      rw [hAd]
      go_wp2
      go_roundw
      case rel => exact ⟨k + 1, by omega, by go_num, by rw [← HST.out]; exact HA.out.set _ _, hbel.setCell (Nat.le_refl _) _⟩
      case measure => simp [intOf]; omega
    · obtain rfl : k = n := by omega
      have HA := hid hA
      clear hA
      go_wp2
      go_ret
      exact ⟨_, rfl, Nat.le_refl _, by rw [← HB.out]; exact HA.out, hbel⟩

/-! The chapter's examples. -/
theorem ex1 : M.uns (nils 512) = 256 := by decide +kernel
theorem ex2 : M.right (M.sld (nils 512)) = true := by decide +kernel
theorem ex3 : M.right (nils 512) = false := by decide +kernel
theorem ex4 : M.zero (nils 512) = true := by decide +kernel
theorem ex5 : M.zero (nils 511) = false := by decide +kernel
theorem nils_take : (nils 512).take 511 = nils 511 := by unfold nils; rw [List.take_replicate]; rfl
theorem Arr.whole {w : World} {g : Nat} {t : TypeId} {zs : List Int} (h : Arr w g t zs) (hl : zs.length = 512) (hz : ∀ z ∈ zs, 0 ≤ z ∧ z ≤ 255) : Rd w w.heap.size (some ⟨g, 0, none⟩) 512 zs := by
  have := h.rd hz h.lt
  rwa [hl] at this

end Go.Proofs.YtkpnhggpcpjddaaGreatDoor
