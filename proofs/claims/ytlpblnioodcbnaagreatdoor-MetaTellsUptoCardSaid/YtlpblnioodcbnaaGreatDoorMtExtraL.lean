/-
  Records that nobody knows stay, by rising keys.
-/
import Derived.Test.YtlpblnioodcbnaaGreatDoorMtExtra
import Derived.IntWalk
import Derived.Test.YtlpblnioodcbnaaGreatDoorMtKnown
import Derived.Test.YtlpblnioodcbnaaGreatDoorMtQuiet
import Derived.Laws.Cover1
set_option linter.unusedVariables false
set_option linter.unusedSimpArgs false
namespace Go.Proofs.YtlpblnioodcbnaaGreatDoor
open Go.RowKit Go.Lib
open Px (R2 tl)
attribute [local go_sem ↓] add_plain
def keyL : List ByteArray := [M.kPath, M.kLink, M.kUser, M.kGroup, M.kUid, M.kGid, M.kSize, M.kTime, M.kMap, M.kReal]
def keyCells : Array Value := #[.string M.kPath, .string M.kLink, .string M.kUser, .string M.kGroup, .string M.kUid, .string M.kGid, .string M.kSize, .string M.kTime, .string M.kMap, .string M.kReal]
theorem key_cell (w : World) (j : Nat) (hj : j < keyL.length) : (w.alloc (.cells keyCells 9)).cell? ⟨w.heap.size, j, none⟩ = some (.string keyL[j]) := by
  have h := World.cell?_alloc_mark w keyCells 9 (0, 0) j
  refine h.trans ?_
  have e : keyCells = (keyL.map Value.string).toArray := rfl
  rw [e]
  simp [hj]
theorem keyL_keys : M.keys = keyL.map tl := rfl
set_option maxRecDepth 100000 in
theorem keys_any (w : World) : Calls Tryz.prog 27 #[] w fun e w' => e = .returned (.slice (some ⟨w.heap.size, 0, none⟩) 10 10) ∧ w' = w.alloc (.cells keyCells 9) := by
  go_enter Tryz.func27, Tryz.ntmps27
  go_wp2
  go_ret
  exact ⟨rfl, rfl⟩
set_option maxRecDepth 100000 in
set_option maxHeartbeats 1000000 in
theorem is_any (s : ByteArray) (w : World) : Calls Tryz.prog 97 #[.string s] w fun e w' => e = .returned (.bool (M.isKey (tl s))) ∧ Below w.heap.size w w' := by
  go_enter Tryz.func97, Tryz.ntmps97
  go_wp2_with (go_at_call 27; (with_reducible refine (keys_any _).mono ?_); rintro e w1 ⟨rfl, rfl⟩)
  have HB := hid ((Below.refl w.heap.size w).alloc (Nat.le_refl _) (.cells keyCells 9))
  have HC := hid (key_cell w)
  generalize World.alloc w _ = W at *
  have hln : keyL.length = 10 := rfl
  go_loopw [4] (fun iv wr => ∃ k : Nat, iv = .int .i64 k ∧ k ≤ 10 ∧ Hid (∀ j (h : j < keyL.length), j < k → ¬ tl keyL[j] = tl s) ∧ wr = W) (fun iv _ => 10 - (intOf iv).toNat)
  case atStart => exact ⟨0, rfl, by omega, hid (fun j _ h => absurd h (by omega)), rfl⟩
  case round =>
    obtain ⟨k, rfl, hk, HN, rfl⟩ := hrel
    by_cases hlt : k < 10
    · have hkl : k < keyL.length := by omega
      have hc := HC.out k hkl
      have hq := str_eq keyL[k] s
      obtain ⟨x, hx⟩ : ∃ x, keyL[k] = x := ⟨_, rfl⟩
      rw [hx] at hc hq
      by_cases he : tl x = tl s
      · rw [decide_eq_true he] at hq
        have HK := hid (show M.isKey (tl s) = true by
          unfold M.isKey
          rw [decide_eq_true_eq, keyL_keys, ← he, ← hx]
          exact List.mem_map_of_mem (List.getElem_mem hkl))
        clear he hx hkl hln
        go_wp2
        go_ret
        exact ⟨by rw [HK.out]; rfl, HB.out⟩
      · rw [decide_eq_false he] at hq
        have HN2 := hid (show ∀ j (h : j < keyL.length), j < k + 1 → ¬ tl keyL[j] = tl s from fun j h hj => by
          rcases Nat.lt_succ_iff_lt_or_eq.1 hj with h1 | h1
          · exact HN.out j h h1
          · subst h1; rw [hx]; exact he)
        clear he hx HN hkl hln
        go_wp2
        go_roundw
        case rel => exact ⟨k + 1, by go_num, by omega, HN2, by first | rfl | trivial⟩
        case measure => simp [intOf]; omega
    · obtain rfl : k = 10 := by omega
      have HK := hid (show M.isKey (tl s) = false by
        unfold M.isKey
        rw [decide_eq_false_iff_not, keyL_keys]
        intro hm
        obtain ⟨x, hx, he⟩ := List.mem_map.1 hm
        obtain ⟨j, hj, rfl⟩ := List.getElem_of_mem hx
        exact HN.out j hj (by omega) he)
      clear HN hlt
      go_wp2
      go_ret
      exact ⟨by rw [HK.out]; rfl, HB.out⟩
end Go.Proofs.YtlpblnioodcbnaaGreatDoor

namespace Go.Proofs.YtlpblnioodcbnaaGreatDoor
open Go.RowKit Go.Lib
open Px (R2 tl)
attribute [local go_sem ↓] add_plain
end Go.Proofs.YtlpblnioodcbnaaGreatDoor

namespace Go.Proofs.YtlpblnioodcbnaaGreatDoor
open Go.RowKit Go.Lib
open Px (R2 tl)
attribute [local go_sem ↓] add_plain
end Go.Proofs.YtlpblnioodcbnaaGreatDoor
