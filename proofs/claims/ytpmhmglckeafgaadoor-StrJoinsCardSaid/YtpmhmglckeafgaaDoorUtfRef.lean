/-
  The document's Utf8 and Plain: what they answer, in plain words.
-/
import Derived.Test.YtpmhmglckeafgaaDoorUtfMath
import Derived.Test.YtpmhmglckeafgaaDoorShelf
import Derived.Test.YtpmhmglckeafgaaDoorNumMem
import Derived.Lib.Hide
import Derived.WalkKit
import Derived.IntWalk
import Derived.LoopTactic
namespace Go.Proofs.YtpmhmglckeafgaaDoor
open Go.RowKit Go.Shelf

theorem at_eq (s : ByteArray) (k : Nat) (h : k < s.size) : M.at' s.data.toList k = (s[k]'h).toNat := by
  unfold M.at'
  rw [List.getD_eq_getElem?_getD, List.getElem?_eq_getElem (by simpa using h)]
  rfl

theorem len_eq (s : ByteArray) : s.data.toList.length = s.size := rfl



set_option maxHeartbeats 1000000 in
theorem tail_any (s : ByteArray) (k : Nat) (lo hi : Nat) (w : World) :
    Calls Tryd.prog 43 #[.string s, .int .i64 k, .int .u8 lo, .int .u8 hi] w fun e w' => e = .returned (.bool (M.tail s.data.toList k lo hi)) ∧ w = w' := by
  by_cases h1 : k < s.size
  · have hat := at_eq s k h1
    have HA := Lib.hid hat; clear hat
    go_enter Tryd.func43, Tryd.ntmps43
    go_wp2
    all_goals
      go_ret
      exact ⟨ret_bool (by unfold M.tail; rw [len_eq, HA.out]; simp [*]), rfl⟩
  · have hd : decide ((k : Int) < (s.size : Int)) = false := by rw [decide_eq_false_iff_not]; omega
    go_enter Tryd.func43, Tryd.ntmps43
    go_wp2
    go_ret
    exact ⟨ret_bool (by unfold M.tail; rw [len_eq]; simp [h1]), rfl⟩

theorem tail_1_128_191 (s : ByteArray) (w : World) : Calls Tryd.prog 43 #[.string s, .int .i64 1, .int .u8 128, .int .u8 191] w fun e w' => e = .returned (.bool (M.tail s.data.toList 1 128 191)) ∧ w = w' :=
  tail_any s 1 128 191 w
theorem tail_2_128_191 (s : ByteArray) (w : World) : Calls Tryd.prog 43 #[.string s, .int .i64 2, .int .u8 128, .int .u8 191] w fun e w' => e = .returned (.bool (M.tail s.data.toList 2 128 191)) ∧ w = w' :=
  tail_any s 2 128 191 w
theorem tail_3_128_191 (s : ByteArray) (w : World) : Calls Tryd.prog 43 #[.string s, .int .i64 3, .int .u8 128, .int .u8 191] w fun e w' => e = .returned (.bool (M.tail s.data.toList 3 128 191)) ∧ w = w' :=
  tail_any s 3 128 191 w
theorem tail_1_160_191 (s : ByteArray) (w : World) : Calls Tryd.prog 43 #[.string s, .int .i64 1, .int .u8 160, .int .u8 191] w fun e w' => e = .returned (.bool (M.tail s.data.toList 1 160 191)) ∧ w = w' :=
  tail_any s 1 160 191 w
theorem tail_1_128_159 (s : ByteArray) (w : World) : Calls Tryd.prog 43 #[.string s, .int .i64 1, .int .u8 128, .int .u8 159] w fun e w' => e = .returned (.bool (M.tail s.data.toList 1 128 159)) ∧ w = w' :=
  tail_any s 1 128 159 w
theorem tail_1_144_191 (s : ByteArray) (w : World) : Calls Tryd.prog 43 #[.string s, .int .i64 1, .int .u8 144, .int .u8 191] w fun e w' => e = .returned (.bool (M.tail s.data.toList 1 144 191)) ∧ w = w' :=
  tail_any s 1 144 191 w
theorem tail_1_128_143 (s : ByteArray) (w : World) : Calls Tryd.prog 43 #[.string s, .int .i64 1, .int .u8 128, .int .u8 143] w fun e w' => e = .returned (.bool (M.tail s.data.toList 1 128 143)) ∧ w = w' :=
  tail_any s 1 128 143 w

theorem tail_false {l : List UInt8} {k lo hi : Nat} : M.tail l k lo hi = false ↔ ¬ (k < l.length ∧ lo ≤ M.at' l k ∧ M.at' l k ≤ hi) := by
  rw [← M.tail_iff]; cases M.tail l k lo hi <;> decide

theorem ret_nat {a b : Nat} {w w' : World} (h : a = b) (hw : w = w') : Ending.returned (.int .i64 (a : Int)) = .returned (.int .i64 (b : Int)) ∧ w = w' := ⟨by rw [h], hw⟩

set_option maxRecDepth 100000 in
set_option maxHeartbeats 4000000 in
theorem long_any (s : ByteArray) (h0 : 0 < s.size) (w : World) :
    Calls Tryd.prog 30 #[.string s] w fun e w' => e = .returned (.int .i64 (M.long s.data.toList)) ∧ w = w' := by
  have hat := at_eq s 0 h0
  have hb : (s[0]'h0).toNat < 256 := UInt8.toNat_lt _
  have HA := Lib.hid hat; clear hat
  go_enter Tryd.func30, Tryd.ntmps30
  go_wp2_with (first
    | (go_at_call 43; ((with_reducible refine (tail_1_128_191 s _).mono ?_); rintro e w' ⟨rfl, rfl⟩))
    | (go_at_call 43; ((with_reducible refine (tail_2_128_191 s _).mono ?_); rintro e w' ⟨rfl, rfl⟩))
    | (go_at_call 43; ((with_reducible refine (tail_3_128_191 s _).mono ?_); rintro e w' ⟨rfl, rfl⟩))
    | (go_at_call 43; ((with_reducible refine (tail_1_160_191 s _).mono ?_); rintro e w' ⟨rfl, rfl⟩))
    | (go_at_call 43; ((with_reducible refine (tail_1_128_159 s _).mono ?_); rintro e w' ⟨rfl, rfl⟩))
    | (go_at_call 43; ((with_reducible refine (tail_1_144_191 s _).mono ?_); rintro e w' ⟨rfl, rfl⟩))
    | (go_at_call 43; ((with_reducible refine (tail_1_128_143 s _).mono ?_); rintro e w' ⟨rfl, rfl⟩)))
  all_goals
    go_ret
    refine ret_nat (a := _) ?_ rfl
    have h0' := HA.out
    have hk := M.lo_hi (M.at' s.data.toList 0)
    rw [M.long_prop]
    simp only [M.tail_iff, tail_false, beq_iff_eq, beq_eq_false_iff_ne, ne_eq] at *
    clear HA
    repeat' split
    all_goals omega
end Go.Proofs.YtpmhmglckeafgaaDoor
