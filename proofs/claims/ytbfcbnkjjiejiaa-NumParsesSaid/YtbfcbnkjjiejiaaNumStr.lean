/-
  'string(b)' of bytes that read as a list; the contracts of the laws' helpers: the chapter's examples hold, both readings and both puts are the same.
-/
import Derived.Test.YtbfcbnkjjiejiaaNumPutB
import Derived.Laws.BytesString
import Derived.Laws.IdiomStrings
import Derived.Lib.SlBytesConst
namespace Go.Proofs.Ytbfcbnkjjiejiaa
open Go.RowKit Go.Lib

/-- The text of bytes. -/
def strOf (zs : List Int) : ByteArray := zs.foldl (fun r n => r.push (UInt8.ofNat n.toNat)) ByteArray.empty

theorem run_str {w : World} {B n : Nat} {A : Option Addr} {zs : List Int} (h : Rd w B A n zs) (c : Nat) :
    (convert 22 9 (.slice A n c)).run Try.prog w = .ok (.string (strOf zs)) w := by
  rw [run_convert_bytes_string w 22 9 5 A n c Try.underlying22 Try.underlying5 Try.underlying9]
  have hlen := h.len
  cases A with
  | none =>
    have h0 : n = 0 := by
      rcases Nat.eq_zero_or_pos n with h0 | h0
      · exact h0
      · obtain ⟨b, off, e, _⟩ := h.2.2 h0
        cases e
    subst h0
    have hz : zs = [] := List.eq_nil_of_length_eq_zero hlen
    subst hz
    simp [Conv.bytesToString, strOf]
  | some a =>
    subst hlen
    have hl := run_loadCells_list (P := Try.prog) w a (zs.map (Value.int .u8)) (fun j v hj => by
      rw [List.getElem?_map] at hj
      cases hz : zs[j]? with
      | none => rw [hz] at hj; cases hj
      | some z =>
        rw [hz] at hj
        injection hj with hj
        subst hj
        have hlt : j < zs.length := (List.getElem?_eq_some_iff.1 hz).1
        obtain ⟨b, off, e, _, hc⟩ := h.2.2 (by omega)
        injection e with e
        subst e
        have hcj := hc j z hz
        unfold Addr.add
        split
        · rename_i h0
          subst h0
          exact hcj
        · exact hcj)
    simp only [List.length_map] at hl
    exact run_bytesToString w a zs.length c zs hl

theorem put84 (w : World) : Calls Try.prog 11 #[.int .i64 8, .int .i64 4] w (PutPost w true [48, 49, 48, 0]) := by
  have h := put_any 8 4 w (by decide)
  rw [show M.putFits 8 4 = true from by decide +kernel, show M.putR 8 4 = [48, 49, 48, 0] from by decide +kernel] at h
  exact h
theorem put13 (w : World) : Calls Try.prog 11 #[.int .i64 (-1), .int .i64 3] w (PutPost w true [255, 255, 255]) := by
  have h := put_any (-1) 3 w (by decide)
  rw [show M.putFits (-1) 3 = true from by decide +kernel, show M.putR (-1) 3 = [255, 255, 255] from by decide +kernel] at h
  exact h

theorem Rd.lit (w : World) (t : TypeId) (fr : Nat × Nat) (zs : List Int) (hz : ∀ z ∈ zs, 0 ≤ z ∧ z ≤ 255) :
    Rd (w.alloc (.cells (zs.map (Value.int .u8)).toArray t fr)) (w.heap.size + 1) (some ⟨w.heap.size, 0, none⟩) zs.length zs := by
  refine ⟨rfl, hz, fun _ => ⟨_, 0, rfl, Nat.lt_succ_self _, fun j z hj => ?_⟩⟩
  rw [World.cell?_alloc_mark, Nat.zero_add]
  simp [hj]

/-- 32, 55, 0: the number 7. -/
theorem octal_seven (w : World) (b : Nat) (h : Rd w (b + 1) (some ⟨b, 0, none⟩) 3 [32, 55, 0]) :
    Calls Try.prog 18 #[.slice (some ⟨b, 0, none⟩) 3 3] w fun e w' => e = .returned (.tuple #[.int .i64 7, .bool true]) ∧ w = w' := by
  have g := octal_any _ 3 3 _ w _ h (Nat.le_refl _) (by decide)
  rw [show M.octN [32, 55, 0] = 7 from by decide +kernel, show M.octOk [32, 55, 0] = true from by decide +kernel] at g
  exact g

set_option maxHeartbeats 400000 in
theorem known_any (w : World) : Calls Try.prog 12 #[] w fun e w' => e = .returned (.bool true) ∧ Below w.heap.size w w' := by
  go_enter Try.func12, Try.ntmps12
  go_wp2_with fail
  refine (put84 _).mono ?_
  rintro e w1 ⟨A1, N1, rfl, r1, b1⟩
  go_wp2_with fail
  refine (put13 _).mono ?_
  rintro e w2 ⟨A2, N2, rfl, r2, b2⟩
  have hsame := fun (w : World) (C : Array Value) (n c : Nat) => Lib.run_convert_bytes_const (P := Try.prog) w 22 5 C n c Try.underlying22 Try.underlying5
  have hb12 : Below w.heap.size w w2 := b1.trans (b2.mono b1.size)
  have r1' : Rd w2 w1.heap.size A1 N1 [48, 49, 48, 0] := r1.below b2
  have hb1 := b2.size
  clear r1 b1 b2
  go_wp2_with fail
  refine (octal_seven _ w2.heap.size ?_).mono ?_
  · exact Rd.lit w2 5 (3, 4) [32, 55, 0] (by decide)
  rintro e w' ⟨rfl, rfl⟩
  have c1 := run_str (r1'.alloc hb1 (.cells #[.int .u8 32, .int .u8 55, .int .u8 0] 5 (3, 4))) N1
  have c2 := run_str (r2.alloc (Nat.le_refl _) (.cells #[.int .u8 32, .int .u8 55, .int .u8 0] 5 (3, 4))) N2
  have s1 : strOf [48, 49, 48, 0] = ⟨#[48, 49, 48, 0]⟩ := by decide +kernel
  have s2 : strOf [255, 255, 255] = ⟨#[255, 255, 255]⟩ := by decide +kernel
  rw [s1] at c1
  rw [s2] at c2
  clear s1 s2 hsame r1' r2
  go_wp2
  go_ret
  exact ⟨rfl, hb12.alloc (hb12.size) _⟩
end Go.Proofs.Ytbfcbnkjjiejiaa
