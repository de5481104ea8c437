/-
  The bytes of choices, with blocks that have nothing.
-/
import Derived.Test.YtjpflljmeaihgaaDoorSpMake
import Derived.Deep.QuietTactic
import Derived.BigQuiet
namespace Go.Proofs.YtjpflljmeaihgaaDoor
open Go.RowKit Go.Lib

/-- What Holes answers. -/
def HolesTo (N : Nat) (w : World) (e : Ending) (w' : World) : Prop :=
  e = .returned (.slice (some ⟨w.heap.size, 0, none⟩) N N) ∧ ∃ zs : List Int, zs.length = N ∧ u8s zs ∧ Blk w' w.heap.size 5 (bcells zs) ∧ Below w.heap.size w w'

set_option maxRecDepth 100000 in
set_option maxHeartbeats 2000000 in
theorem holes_any (A : Option Addr) (n c : Nat) (ys : List Int) (a : Int) (N : Nat) (w : World) (hr : Rd w w.heap.size A n ys) (hn : n ≤ maxLen) (ha : 0 ≤ a ∧ a ≤ 65535) (hN : a % 4000 = (N : Int)) :
    Calls Tryd.prog 22 #[.slice A n c, .int .u16 a] w (HolesTo N w) := by
  have HR := hid (fun (W : World) (hW : Below w.heap.size w W) => hr.below hW)
  obtain ⟨a0, a1⟩ := ha
  have hNb : N ≤ 4000 := by omega
  have hmk := run_makeB N (by omega)
  have hml : n ≤ 9223372036854775807 := hn
  clear hr hn
  go_enter Tryd.func22, Tryd.ntmps22
  go_wp2
  clear hmk hN
  have HB0 := hid (show Blk (w.alloc (.cells (bcells (M.zeros N)).toArray 5)) w.heap.size 5 (bcells (M.zeros N)) from Blk.new w _ _)
  have HW0 := hid (show Below w.heap.size w (w.alloc (.cells (bcells (M.zeros N)).toArray 5)) from (Below.refl _ _).alloc (Nat.le_refl _) _)
  generalize w.alloc _ = w0 at *
  go_loopw [6] (fun iv wr => ∃ (i : Nat) (zs : List Int), iv = .int .i64 i ∧ i ≤ n ∧ Hid (zs.length = N) ∧ Hid (u8s zs) ∧ Hid (Blk wr w.heap.size 5 (bcells zs)) ∧ Hid (Below w.heap.size w wr)) (fun iv _ => n - (RowKit.intOf iv).toNat)
  case atStart => exact ⟨0, M.zeros N, rfl, Nat.zero_le _, hid (M.zeros_len N), hid (M.zeros_u8 N), HB0, HW0⟩
  case round =>
    obtain ⟨i, zs, rfl, hi, HZL, HZU, HK, HW⟩ := hrel
    by_cases hlt : i < n
    · obtain ⟨b, off, z, rfl, hb, hz0, hz1, hz, hcz⟩ := (HR.out wr HW.out).at_ hlt
      obtain ⟨x, hx⟩ : ∃ x : Int, z % 8 = x := ⟨_, rfl⟩
      have hxb : 0 ≤ x ∧ x < 8 := by omega
      obtain ⟨x0, x1⟩ := hxb
      obtain ⟨kk, hkk⟩ : ∃ kk : Nat, 512 * x + z = (kk : Int) := ⟨(512 * x + z).toNat, by omega⟩
      have d1 : decide (i < n) = true := by rw [decide_eq_true_eq]; exact hlt
      obtain ⟨i1, hi1⟩ : ∃ i1, i1 = i + 1 := ⟨_, rfl⟩
      have HZ := hid (show 0 ≤ z ∧ z ≤ 255 from ⟨hz0, hz1⟩)
      clear hz
      by_cases hkn : kk < N
      · have hcell : ∃ u, wr.cell? ⟨w.heap.size, kk, none⟩ = some u := by
          have hl : kk < (bcells zs).length := by rw [bcells_len, HZL.out]; exact hkn
          exact ⟨_, HK.out.cell (List.getElem?_eq_getElem hl)⟩
        obtain ⟨u, hu⟩ := hcell
        have hf := HK.out.frozen kk
        have d2 : decide (kk < N) = true := by rw [decide_eq_true_eq]; exact hkn
        have HK2 : Hid (∀ nq : Nat, Blk ((wr.drewN nq).setCell ⟨w.heap.size, kk, none⟩ (.int .u8 z)) w.heap.size 5 (bcells (zs.set kk z))) := hid (fun nq => by
          have := (HK.out.drew).set kk (.int .u8 z)
          rw [bcells_set] at this
          exact this)
        have HW2 := hid (fun nq : Nat => (below_drewN' HW.out nq).setCell (p := ⟨w.heap.size, kk, none⟩) (Nat.le_refl _) (.int .u8 z))
        have HU2 := hid (show u8s (zs.set kk z) from fun y hy => by
          rcases List.mem_or_eq_of_mem_set hy with h | h
          · exact HZU.out y h
          · rw [h]; exact HZ.out)
        have HL2 := hid (show (zs.set kk z).length = N by rw [List.length_set]; exact HZL.out)
        clear HK HW
        by_cases hi0 : i = 0
        case' pos =>
          subst hi0
          simp only [Nat.add_zero] at hcz
        case' neg => have hip : 0 < i := by omega
        all_goals
          by_cases hq0 : kk = 0
          case' pos => subst hq0
          case' neg => have hqp : 0 < kk := by omega
          all_goals
            go_wp2_with fail
            go_quiet (fail)
            go_wp2
            go_roundw
            case rel => exact ⟨i1, _, (by subst hi1; first | rfl | go_num), by omega, HL2, HU2, hid (HK2.out _), hid (HW2.out _)⟩
            case measure => simp [RowKit.intOf] <;> omega
      · have d2 : decide (kk < N) = false := by rw [decide_eq_false_iff_not]; exact hkn
        by_cases hi0 : i = 0
        case' pos =>
          subst hi0
          simp only [Nat.add_zero] at hcz
        case' neg => have hip : 0 < i := by omega
        all_goals
          go_wp2_with fail
          go_quiet (fail)
          go_wp2
          go_roundw
          case rel => exact ⟨i1, zs, (by subst hi1; first | rfl | go_num), by omega, HZL, HZU, HK, hid (below_drewN' HW.out _)⟩
          case measure => simp [RowKit.intOf] <;> omega
    · obtain rfl : i = n := by omega
      have d1 : decide (i < i) = false := by simp
      clear hlt
      go_wp2
      go_ret
      exact ⟨rfl, zs, HZL.out, HZU.out, HK.out, HW.out⟩
end Go.Proofs.YtjpflljmeaihgaaDoor
