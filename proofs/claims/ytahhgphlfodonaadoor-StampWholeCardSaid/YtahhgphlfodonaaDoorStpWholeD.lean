/-
  The digits of a number, by a function that calls itself.
-/
import Derived.Test.YtahhgphlfodonaaDoorStpText
import Derived.Deep.RegionWith
import Derived.RegionTactic
namespace Go.Proofs.YtahhgphlfodonaaDoor
open Go.RowKit

theorem run_one' (W : World) (v : Nat) (hv : v < 10) : (convert 33 9 (.slice (some ⟨W.heap.size, 0, none⟩) 1 1)).run Tryd.prog (W.alloc (.cells #[.int .u8 (48 + (v : Int))] 5)) = .ok (.string ⟨#[UInt8.ofNat (48 + v)]⟩) (W.alloc (.cells #[.int .u8 (48 + (v : Int))] 5)) := by
  have := run_one W (48 + v) (by omega)
  have e : ((48 + v : Nat) : Int) = 48 + (v : Int) := by omega
  rw [e] at this
  exact this

/-- .. in a later world. -/
theorem run_later {W w1 : World} (v : Nat) (hv : v < 10) (hb : Below (W.alloc (.cells #[.int .u8 (48 + (v : Int))] 5)).heap.size (W.alloc (.cells #[.int .u8 (48 + (v : Int))] 5)) w1) :
    (convert 33 9 (.slice (some ⟨W.heap.size, 0, none⟩) 1 1)).run Tryd.prog w1 = .ok (.string ⟨#[UInt8.ofNat (48 + v)]⟩) w1 := by
  have e : ((UInt8.ofNat (48 + v)).toNat : Int) = 48 + (v : Int) := by rw [UInt8.toNat_ofNat']; omega
  have h := Rd.new W 5 [UInt8.ofNat (48 + v)]
  have e2 : (Lib.byteCells [UInt8.ofNat (48 + v)]).toArray = #[.int .u8 (48 + (v : Int))] := by
    unfold Lib.byteCells
    simp only [List.map_cons, List.map_nil, e]
  rw [e2] at h
  rw [World.size_alloc] at hb
  exact run_text (h.below hb) 1

set_option maxRecDepth 100000 in
set_option maxHeartbeats 4000000 in
theorem digitsTo_any : ∀ (n : Nat), n ≤ 4294967295 → ∀ (w : World), Calls Tryd.prog 9 #[.int .i64 n] w (TextIs (Lib.decDigits n) w) := by
  intro n
  induction n using Nat.strongRecOn with
  | _ n ih =>
    intro hn w
    by_cases h10 : n < 10
    · have hd : Lib.decDigits n = [UInt8.ofNat (48 + n)] := by rw [Lib.decDigits, dif_pos h10]
      have hcv := fun W => run_one' W n h10
      generalize UInt8.ofNat (48 + n) = c at *
      have HD := Lib.hid hd
      have e1 : decide ((n : Int) < 10) = true := by rw [decide_eq_true_eq]; omega
      clear ih hd
      go_enter Tryd.func9, Tryd.ntmps9
      go_wp2
      go_ret
      exact ⟨ret_text (by rw [HD.out]; rfl), (Below.refl _ w).alloc (Nat.le_refl _) _⟩
    · have hd : Lib.decDigits n = Lib.decDigits (n / 10) ++ [UInt8.ofNat (48 + n % 10)] := by rw [Lib.decDigits, dif_neg h10]
      have hl : (Lib.decDigits (n / 10)).length ≤ 10 := by rw [Lib.decDigits_length]; exact M.dec_len (by omega) (by omega)
      have C1 := fun W => ih (n / 10) (by omega) (by omega) W
      unfold TextIs at C1
      obtain ⟨q, hq⟩ : ∃ q : Nat, n / 10 = q := ⟨_, rfl⟩
      obtain ⟨r, hr⟩ : ∃ r : Nat, n % 10 = r := ⟨_, rfl⟩
      have hr10 : r < 10 := by omega
      have hqi : (n : Int) / 10 = (q : Int) := by omega
      have hri : (n : Int) % 10 = (r : Int) := by omega
      have hcv := fun W => run_one' W r hr10
      have f1 : IntKind.i64.wrap (q : Int) = (q : Int) := by rw [IntKind.wrap_i64]; omega
      have f2 : (n : Int).tmod 10 = (r : Int) := by rw [Int.tmod_eq_emod_of_nonneg (by omega)]; exact hri
      have f3 : IntKind.u8.wrap (r : Int) = (r : Int) := by show (r : Int) % 256 = r; omega
      have f4 : IntKind.u8.wrap (48 + (r : Int)) = 48 + (r : Int) := by show (48 + (r : Int)) % 256 = _; omega
      have hcw := fun w1 hb => run_later (W := w.drew) (w1 := w1) r hr10 hb
      have hcd := run_later (W := w) (w1 := (w.alloc (.cells #[.int .u8 (48 + (r : Int))] 5)).drew) r hr10 (below_drew' (Below.refl _ _))
      rw [hq] at C1 hd hl
      rw [hr] at hd
      generalize UInt8.ofNat (48 + r) = c at *
      generalize Lib.decDigits q = D at *
      have HD := Lib.hid hd
      have H1 := Lib.hid C1
      have HCW := Lib.hid hcw
      clear hcw
      have e1 : decide ((n : Int) < 10) = false := by rw [decide_eq_false_iff_not]; omega
      have hn0 : (0 : Int) ≤ (n : Int) := by omega
      have hsz : (⟨D.toArray⟩ : ByteArray).size ≤ 10 := hl
      clear ih hd C1 hq hr
      go_enter Tryd.func9, Tryd.ntmps9
      go_wp2_with fail
      go_region_with (go_at_call 9; (with_reducible refine (H1.out _).mono ?_); rintro e w1 ⟨rfl, hb1⟩; try have hcx : (convert 33 9 (.slice (some ⟨w.heap.size, 0, none⟩) 1 1)).run Tryd.prog w1 = .ok (.string ⟨#[c]⟩) w1 := HCW.out w1 hb1)
      all_goals
        go_wp2
        go_ret
        refine ⟨ret_text (by rw [HD.out, tl_append]; rfl), ?_⟩
        have bd := below_drew' (Below.refl w.heap.size w)
        have ba := below_drew' ((Below.refl w.heap.size w).alloc (Nat.le_refl _) (.cells #[.int .u8 (48 + (r : Int))] 5))
        first
          | exact bd.trans hb1
          | exact (bd.trans hb1).alloc (bd.trans hb1).size _
          | exact ba.trans (hb1.mono (by simp))
end Go.Proofs.YtahhgphlfodonaaDoor
