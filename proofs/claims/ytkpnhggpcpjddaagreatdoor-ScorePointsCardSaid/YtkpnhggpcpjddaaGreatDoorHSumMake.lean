/-
  'make([]byte, 512)': a block of noughts; what the document puts lies in a block of its own.
-/
import Derived.Test.YtkpnhggpcpjddaaGreatDoorHdZero
import Derived.Test.YtkpnhggpcpjddaaGreatDoorHMs
set_option linter.unusedVariables false
set_option linter.unusedSimpArgs false
namespace Go.Proofs.YtkpnhggpcpjddaaGreatDoor
open Go.RowKit Go.Lib

theorem madeBlk : (madeCells #[Value.int .u8 0] 512) = (bcells (nils 512)).toArray := by kernel_rfl
theorem run_make512 (w : World) : (Instr.makeSlice 22 (.int .i64 512) (.int .i64 512)).run Tryz.prog w = .ok (.slice (some ⟨w.heap.size, 0, none⟩) 512 512) (w.alloc (.cells (bcells (nils 512)).toArray 5)) := by
  have h := run_make_row' (P := Tryz.prog) 22 5 (.int .u8 0) 1 Tryz.underlying22 u8_info rfl .i64 .i64 512 (by omega) (by omega) w
  rw [madeBlk, show ((512 : Nat) : Int) = 512 from rfl] at h
  exact h
/-- What is put, in the block that is made first. -/
def PutNew (w : World) (N : Nat) (zs : List Int) (e : Ending) (w' : World) : Prop :=
  e = .returned (.tuple #[.slice (some ⟨w.heap.size, 0, none⟩) N N, .bool true]) ∧ Rd w' w'.heap.size (some ⟨w.heap.size, 0, none⟩) N zs ∧ Below w.heap.size w w'
set_option maxHeartbeats 800000 in
theorem putOctalRef_new (n : Int) (N : Nat) (w : World) (h1 : 2 ≤ N) (h2 : N ≤ 32) (h3 : 0 ≤ n) (h4 : n ≤ 4611686018427387904) (hzz : n / 8 ^ (N - 1) = 0) :
    Calls Tryz.prog 38 #[.int .i64 n, .int .i64 N] w (PutNew w N (M.oct n N)) := by
  have HZZ := hid hzz
  clear hzz
  have e1 : decide (n < 0) = false := by simpa using h3
  have e2 : decide (4611686018427387904 < n) = false := by simpa using h4
  have e3 : decide ((N : Int) < 2) = false := by rw [decide_eq_false_iff_not]; omega
  have e4 : decide (32 < (N : Int)) = false := by rw [decide_eq_false_iff_not]; omega
  have hmk := run_make_row' (P := Tryz.prog) 22 5 (.int .u8 0) 1 Tryz.underlying22 u8_info rfl .i64 .i64 N (by omega) (by omega)
  go_enter Tryz.func38, Tryz.ntmps38
  go_wp2
  clear hmk e1 e2 e3 e4
  go_loopw [0, 7] (fun v i wr => ∃ k : Nat, k ≤ N - 1 ∧ i = .int .i64 ((N : Int) - 2 - k) ∧ v = .int .i64 (n / 8 ^ k) ∧ RowB wr w.heap.size N (M.octC n N k) ∧ Below w.heap.size w wr) (fun _ i _ => (intOf i + 1).toNat)
  case atStart => exact ⟨0, Nat.zero_le _, by go_num, by simp, (RowB.made w N).to fun i _ => (M.octC_zero n N i).symm, (Below.refl _ _).alloc (Nat.le_refl _) _⟩
  case round =>
    obtain ⟨k, hk, rfl, rfl, hrow, hbel⟩ := hrel
    have hv0 := M.shr8_nonneg h3 k
    have hv1 := M.shr8_le h3 k
    by_cases hlt : k < N - 1
    · have hc := hrow.cell (i := N - 2 - k) (by omega)
      have hf := hrow.frozen (N - 2 - k)
      have HS := hid (M.shr8_succ n k)
      generalize hval : n / 8 ^ k = v at *
      have HV := hid hval
      clear hval
      have hge : (0 : Int) ≤ (N : Int) - 2 - k := by omega
      have hto : ((N : Int) - 2 - k).toNat = N - 2 - k := by omega
      go_wp2
      have he : (48 + v % 8) % 256 = 48 + v % 8 := by omega
      go_roundw
      case rel =>
        refine ⟨k + 1, by omega, by go_num, by rw [HS.out], (hrow.set _ _).to fun j _ => ?_, hbel.setCell (Nat.le_refl _) _⟩
        rw [← HV.out]
        exact M.octC_succ n N k j hlt
      case measure => simp [intOf]; omega
    · obtain rfl : k = N - 1 := by omega
      have hrow' : RowB wr w.heap.size N (M.octG n N) := hrow.to fun j _ => M.octC_end n N j
      clear hrow hlt hk
      have hneg : (N : Int) - 2 - ((N - 1 : Nat) : Int) < 0 := by omega
      rw [HZZ.out]
      clear hv0 hv1
      go_wp2
      go_ret2
      exact ⟨rfl, hrow'.rd (M.octG_bd n N), hbel⟩

end Go.Proofs.YtkpnhggpcpjddaaGreatDoor
