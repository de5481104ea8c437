/-
  SumNoughts' walk.
-/
import Derived.Test.YtjaopghpopmmdaaSumLaw
namespace Go.Proofs.Ytjaopghpopmmdaa
open Go.RowKit Go.Lib

theorem run_make1024 (w : World) : (Instr.makeSlice 22 (.int .i64 1024) (.int .i64 1024)).run Try.prog w = .ok (.slice (some ⟨w.heap.size, 0, none⟩) 1024 1024) (w.alloc (.cells (madeCells #[.int .u8 0] 1024) 5)) := by
  have h := run_make_row' (P := Try.prog) 22 5 (.int .u8 0) 1 Try.underlying22 u8_info rfl .i64 .i64 1024 (by omega) (by omega) w
  rw [show ((1024 : Nat) : Int) = 1024 from rfl] at h
  exact h
/-- The cells of 1024 noughts. -/
def kilo : Array Value := madeCells #[.int .u8 0] 1024
theorem run_kilo (w : World) : (Instr.makeSlice 22 (.int .i64 1024) (.int .i64 1024)).run Try.prog w = .ok (.slice (some ⟨w.heap.size, 0, none⟩) 1024 1024) (w.alloc (.cells kilo 5)) := run_make1024 w
theorem kilo_rd (w : World) : Rd (w.alloc (.cells kilo 5)) (w.alloc (.cells kilo 5)).heap.size (some ⟨w.heap.size, 0, none⟩) 1024 (M.listOf (fun _ => 0) 1024) :=
  (RowB.made w 1024).rd (fun _ => by decide)
attribute [local go_sem ↓] run_make512 run_kilo

theorem zero_set (k : Nat) (hk : k < 512) (v : Int) : M.zero ((nils 512).set k v) = (v == 0) := by
  unfold M.zero
  rw [List.length_set, nils_len, decide_eq_true rfl, Bool.true_and]
  by_cases hv : v = 0
  · subst hv
    have : (nils 512).set k 0 = nils 512 := by unfold nils; rw [List.set_replicate_self]
    rw [this]
    have h := ex4
    unfold M.zero at h
    rw [nils_len, decide_eq_true rfl, Bool.true_and] at h
    rw [h]
    rfl
  · rw [show (v == 0) = false by simpa using hv, List.all_eq_false]
    exact ⟨v, List.mem_of_getElem? (i := k) (by rw [List.getElem?_set_self (by rw [nils_len]; exact hk)]), by simpa using hv⟩

set_option maxRecDepth 100000 in
set_option maxHeartbeats 1000000 in
theorem sumNoughts_any (a v : Int) (w : World) (ha : 0 ≤ a ∧ a ≤ 65535) (hv : 0 ≤ v ∧ v ≤ 255) :
    Calls Try.prog 4 #[.int .u16 a, .int .u8 v] w fun e w' => e = .returned (.bool true) ∧ Below w.heap.size w w' := by
  obtain ⟨ha0, ha1⟩ := ha
  obtain ⟨hv0, hv1⟩ := hv
  have hi0 : 0 ≤ a % 512 := by omega
  have hi1 : a % 512 < 512 := by omega
  have hA0 := Arr.new w 5 (nils 512)
  obtain ⟨y, hy⟩ : ∃ y, (nils 512)[(a % 512).toNat]? = some y := ⟨_, List.getElem?_eq_getElem (by rw [nils_len]; omega)⟩
  have hcs := hA0.cell hy
  have hfs := hA0.frozen (a % 512).toNat
  have hA1 : Arr (w.alloc (.cells ((bcells (nils 512)).set (a % 512).toNat (.int .u8 v)).toArray 5)) w.heap.size 5 ((nils 512).set (a % 512).toNat v) := by
    rw [bcells_set]
    exact Arr.new w _ _
  have hb1 : Below w.heap.size w (w.alloc (.cells ((bcells (nils 512)).set (a % 512).toNat (.int .u8 v)).toArray 5)) := (Below.refl _ _).alloc (Nat.le_refl _) _
  have HA := hid hA1
  have HB := hid hb1
  have HV := hid (zero_set (a % 512).toNat (by omega) v)
  have HL : Hid (∀ z ∈ (nils 512).set (a % 512).toNat v, 0 ≤ z ∧ z ≤ 255) := hid (fun z hz => by
    rcases List.mem_or_eq_of_mem_set hz with h1 | h1
    · exact nils_bd _ z h1
    · rw [h1]; exact ⟨hv0, hv1⟩)
  clear hA0 hA1 hb1 hy
  by_cases h0 : v = 0
  case' pos =>
    have e0 : (v == 0) = true := by simpa using h0
  case' neg =>
    have e0 : (v == 0) = false := by simpa using h0
  all_goals
    rw [e0] at HV
    clear h0
    go_enter Try.func4, Try.ntmps4
    go_wp2_with fail
    generalize w.alloc (.cells ((bcells (nils 512)).set (a % 512).toNat (.int .u8 v)).toArray 5) = w1 at *
    have hlt1 := HA.out.lt
    refine (known_any _).mono ?_
    rintro e w2 ⟨rfl, b2⟩
    have hA2 := HA.out.below b2 hlt1
    have hb2 := HB.out.trans (b2.mono HB.out.size)
    have HZ := hid (zero_any (some ⟨w.heap.size, 0, none⟩) 512 512 _ w2 _ (hA2.whole (by rw [List.length_set]; exact nils_len _) HL.out) (Nat.le_refl _))
    rw [HV.out] at HZ
    clear hA2 b2
    go_wp2_with fail
    (with_reducible refine HZ.out.mono ?_)
    rintro e w3 ⟨rfl, b3⟩
    have hb3 := hb2.trans (b3.mono hb2.size)
    have HN : Hid (Calls Try.prog 13 #[.slice none 0 0] w3 fun e w' => e = .returned (.bool false) ∧ Below w3.heap.size w3 w') := hid (zero_any none 0 0 [] w3 _ Rd.none_ (Nat.le_refl _))
    clear b3 hb2 HZ
    go_wp2_with fail
    (with_reducible refine HN.out.mono ?_)
    rintro e w4 ⟨rfl, b4⟩
    have hb4 := hb3.trans (b4.mono hb3.size)
    have HK := hid (zero_any (some ⟨w4.heap.size, 0, none⟩) 1024 1024 _ _ _ (kilo_rd w4) (Nat.le_refl _))
    rw [M.zero_no (by rw [M.listOf_len]; decide)] at HK
    have hb5 := hb4.alloc hb4.size (.cells kilo 5)
    clear b4 hb3 HN
    go_wp2_with fail
    (with_reducible refine HK.out.mono ?_)
    rintro e w6 ⟨rfl, b6⟩
    have hb6 := hb5.trans (b6.mono hb5.size)
    clear b6 HK
    go_wp2
    go_ret
    exact ⟨rfl, hb6⟩
end Go.Proofs.Ytjaopghpopmmdaa
