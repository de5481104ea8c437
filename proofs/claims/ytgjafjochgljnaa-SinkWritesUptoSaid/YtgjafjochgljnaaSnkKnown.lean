/-
  The chapter's example holds.
-/
import Derived.Test.YtgjafjochgljnaaSnkWrite
import Derived.Test.YtgjafjochgljnaaSnkBytes
namespace Go.Proofs.Ytgjafjochgljnaa
open Go.RowKit Go.Lib

/-- Bytes of a literal. -/
theorem Rd.lit (w : World) (t : TypeId) (mark : Nat × Nat) (zs : List Int) (hz : u8s zs) : Rd (w.alloc (.cells (bcells zs).toArray t mark)) (w.heap.size + 1) (some ⟨w.heap.size, 0, none⟩) zs.length zs := by
  refine ⟨rfl, hz, fun _ => ⟨_, 0, rfl, Nat.lt_succ_self _, fun j z hj => ?_⟩⟩
  rw [World.cell?_alloc_mark, Nat.zero_add]
  simp [bcells, hj]

theorem str_abc : strOf [97, 98, 99] = ⟨#[97, 98, 99]⟩ := by decide +kernel

set_option maxRecDepth 100000 in
set_option maxHeartbeats 1000000 in
theorem known_any (w : World) : Calls Try.prog 7 #[] w fun e w' => e = .returned (.bool true) ∧ Below w.heap.size w w' := by
  have hsame := fun (w : World) (C : Array Value) (n c : Nat) => Lib.run_convert_bytes_const (P := Try.prog) w 22 5 C n c Try.underlying22 Try.underlying5
  have HN := hid (new_any 3 w (by decide))
  rw [show max (3 : Int) 0 = 3 from rfl] at HN
  have HW := hid (fun (g : Nat) (w1 W : World) (hS : Snk w1 w.heap.size g (.slice none 0 0) 3 []) (hb : Below w.heap.size w w1) (hW : W = w1.alloc (.cells #[.int .u8 97, .int .u8 98, .int .u8 99, .int .u8 100, .int .u8 101] 5 (5, 6))) => by
    have hR := Rd.lit w1 5 (5, 6) [97, 98, 99, 100, 101] (by unfold u8s; decide)
    have hbW : Below w1.heap.size w1 W := by rw [hW]; exact (Below.refl _ _).alloc (Nat.le_refl _) _
    have hR' : Rd W W.heap.size (some ⟨w1.heap.size, 0, none⟩) 5 [97, 98, 99, 100, 101] := by
      rw [hW]
      exact hR.more (by simp)
    exact (⟨write_any w.heap.size g (.slice none 0 0) 3 [] (some ⟨w1.heap.size, 0, none⟩) 5 5 [97, 98, 99, 100, 101] W W.heap.size (hS.later hbW) (Nat.le_trans hb.size hbW.size) hR' (Nat.le_refl _) (Nat.le_refl _) (by decide) (by decide), hb.trans (hbW.mono hb.size)⟩ :
      Calls Try.prog 9 #[.pointer (some ⟨g, 0, none⟩), .slice (some ⟨w1.heap.size, 0, none⟩) 5 5] W (WritePost W w.heap.size g (.slice none 0 0) 3 [] [97, 98, 99, 100, 101]) ∧ Below w.heap.size w W))
  unfold WritePost at HW
  rw [show M.got 3 ([] : List Int).length ([97, 98, 99, 100, 101] : List Int).length = 3 from by decide, show (if 3 < ([97, 98, 99, 100, 101] : List Int).length then (20 : Int) else 0) = 20 from by decide, show ([] : List Int) ++ List.take 3 [97, 98, 99, 100, 101] = [97, 98, 99] from rfl] at HW
  have HB := hid (fun (g : Nat) (v : Value) (W : World) (hS : Snk W w.heap.size g v 3 [97, 98, 99]) => bytes_any w.heap.size g v 3 [97, 98, 99] W hS (by decide))
  have HL := hid (fun (g : Nat) (v : Value) (W : World) (hS : Snk W w.heap.size g v 3 [97, 98, 99]) => left_any w.heap.size g v 3 [97, 98, 99] W hS)
  rw [show ([97, 98, 99] : List Int).length = 3 from rfl] at HB
  rw [show (3 : Int) - (([97, 98, 99] : List Int).length : Nat) = 0 from rfl] at HL
  go_enter Try.func7, Try.ntmps7
  go_wp2_with fail
  (with_reducible refine HN.out.mono ?_)
  rintro e w1 ⟨g, rfl, hS, b1⟩
  have HW1 := hid (HW.out g w1 _ hS b1 rfl)
  clear hS HW HN
  go_wp2_with fail
  clear hsame
  obtain ⟨hc, hbW⟩ := HW1.out
  have HBW := hid hbW
  (with_reducible refine hc.mono ?_)
  rintro e w2 ⟨v, rfl, hS2, hF, _⟩
  clear HW1 hc
  have HF := hid hF
  have HS2 := hid hS2
  clear hS2 hF hbW
  go_wp2_with fail
  (with_reducible refine (HB.out g v w2 HS2.out).mono ?_)
  rintro e w3 ⟨A, c, rfl, hr, b3⟩
  have cv := run_str hr c
  rw [str_abc] at cv
  have hS3 := HS2.out.later b3
  have HS3 := hid hS3
  clear hS3 hr HB
  have B3 := hid b3
  clear b3
  go_wp2_with fail
  (with_reducible refine (HL.out g v w3 HS3.out).mono ?_)
  rintro e w4 ⟨rfl, b4⟩
  clear cv
  go_wp2
  go_ret
  refine ⟨rfl, ?_⟩
  have hb2 := HBW.out.trans (HF.out.below (B := w.heap.size) HBW.out.size (fun k hk => by
    rcases hk with rfl | hk
    · exact HS2.out.at_
    · cases hk))
  have hb3 := hb2.trans (B3.out.mono hb2.size)
  exact hb3.trans (b4.mono hb3.size)
end Go.Proofs.Ytgjafjochgljnaa
