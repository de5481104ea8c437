/-
  The statements' helpers: the chapter's examples hold; a path of choices is some text.
-/
import Derived.Test.YtpmhmglckeafgaaDoorStrRef
import Derived.Test.YtpmhmglckeafgaaDoorUtfStr
import Derived.Test.YtpmhmglckeafgaaDoorStrCut
namespace Go.Proofs.YtpmhmglckeafgaaDoor
open Go.RowKit Go.Shelf

theorem clean_one (w : World) : Calls Tryd.prog 23 #[.string ⟨#[97, 47, 47, 46, 47, 98, 47]⟩] w fun e w' => e = .returned (.tuple #[.string ⟨#[97, 47, 98]⟩, .bool true]) ∧ Below w.heap.size w w' := by
  have h := clean_any ⟨#[97, 47, 47, 46, 47, 98, 47]⟩ (by decide) w
  rw [show cleanV (tl ⟨#[97, 47, 47, 46, 47, 98, 47]⟩) = .tuple #[.string ⟨#[97, 47, 98]⟩, .bool true] from by unfold cleanV; rw [show M.clean (tl ⟨#[97, 47, 47, 46, 47, 98, 47]⟩) = ([97, 47, 98], true) from by decide +kernel]] at h
  exact h
theorem clean_two (w : World) : Calls Tryd.prog 23 #[.string ⟨#[97, 47, 46, 46, 47, 98]⟩] w fun e w' => e = .returned (.tuple #[.string ⟨#[]⟩, .bool false]) ∧ Below w.heap.size w w' := by
  have h := clean_any ⟨#[97, 47, 46, 46, 47, 98]⟩ (by decide) w
  rw [show cleanV (tl ⟨#[97, 47, 46, 46, 47, 98]⟩) = .tuple #[.string ⟨#[]⟩, .bool false] from by unfold cleanV; rw [show M.clean (tl ⟨#[97, 47, 46, 46, 47, 98]⟩) = ([], false) from by decide +kernel]] at h
  exact h
theorem utf_one (w : World) : Calls Tryd.prog 13 #[.string ⟨#[195, 169]⟩] w fun e w' => e = .returned (.bool true) ∧ Below w.heap.size w w' := by
  have h := utf8_any ⟨#[195, 169]⟩ w
  rw [show M.utf (⟨#[195, 169]⟩ : ByteArray).data.toList = true from by decide +kernel] at h
  exact h
theorem utf_two (w : World) : Calls Tryd.prog 13 #[.string ⟨#[255]⟩] w fun e w' => e = .returned (.bool false) ∧ Below w.heap.size w w' := by
  have h := utf8_any ⟨#[255]⟩ w
  rw [show M.utf (⟨#[255]⟩ : ByteArray).data.toList = false from by decide +kernel] at h
  exact h

set_option maxRecDepth 100000 in
set_option maxHeartbeats 1000000 in
theorem known_any (w : World) : Calls Tryd.prog 12 #[] w fun e w' => e = .returned (.bool true) ∧ Below w.heap.size w w' := by
  go_enter Tryd.func12, Tryd.ntmps12
  go_wp2_with fail
  refine (clean_one _).mono ?_
  rintro e w1 ⟨rfl, b1⟩
  go_wp2_with fail
  refine (clean_two _).mono ?_
  rintro e w2 ⟨rfl, b2⟩
  have b12 := b1.trans (b2.mono b1.size)
  go_wp2_with fail
  refine (utf_one _).mono ?_
  rintro e w3 ⟨rfl, b3⟩
  have b13 := b12.trans (b3.mono b12.size)
  go_wp2_with fail
  refine (utf_two _).mono ?_
  rintro e w4 ⟨rfl, b4⟩
  have b14 := b13.trans (b4.mono b13.size)
  go_wp2
  go_ret
  exact ⟨rfl, b14⟩

set_option maxRecDepth 100000 in
set_option maxHeartbeats 1000000 in
theorem paths_any (s : ByteArray) (hs : s.size ≤ 1000) (w : World) : Calls Tryd.prog 22 #[.string s] w fun e w' => e = .returned (.bool true) ∧ Below w.heap.size w w' := by
  have hsum := names_sum (tl s)
  have htl : (tl s).length = s.size := rfl
  have hc : ∃ p b, cleanV (tl s) = .tuple #[.string p, .bool b] := ⟨_, _, rfl⟩
  obtain ⟨p, b, hc⟩ := hc
  have C1 := fun W => clean_any s (by omega) W
  have C2 := fun W => refClean_any s (by omega) W
  rw [hc] at C1 C2
  have HC1 := Lib.hid C1
  have HC2 := Lib.hid C2
  have HS := Lib.hid (fun W => split_any s (by omega) W)
  have HS2 := Lib.hid (fun W => refSplit_any s (by omega) W)
  have HT := Lib.hid htl
  clear C1 C2 hc htl
  go_enter Tryd.func22, Tryd.ntmps22
  go_wp2_with fail
  refine (HC1.out _).mono ?_
  rintro e w1 ⟨rfl, b1⟩
  go_wp2_with fail
  refine (HC2.out _).mono ?_
  rintro e w2 ⟨rfl, b2⟩
  have b12 := b1.trans (b2.mono b1.size)
  go_wp2_with fail
  refine (HS.out _).mono ?_
  rintro e w3 ⟨v1, rfl, t1, b3⟩
  have b13 := b12.trans (b3.mono b12.size)
  go_wp2_with fail
  refine (HS2.out _).mono ?_
  rintro e w4 ⟨v2, rfl, t2, b4⟩
  have b14 := b13.trans (b4.mono b13.size)
  have r1 := (t1.below b4).reads
  have r2 := t2.reads
  obtain ⟨xs, A, c, hx, rfl, hcx, hcellx⟩ := r1
  obtain ⟨ys, A2, c2, hy, rfl, hcy, hcelly⟩ := r2
  have hl : ys.length = xs.length := by
    have h1 := congrArg List.length hx
    have h2 := congrArg List.length hy
    rw [List.length_map] at h1 h2
    omega
  have hxl : xs.length ≤ 2000 := by
    have h1 := congrArg List.length hx
    rw [List.length_map] at h1
    have := HT.out
    omega
  have J1 := Lib.hid (join_any (.slice A xs.length c) (M.names (tl s)) (by have := HT.out; omega) w4 ⟨xs, A, c, hx, rfl, hcx, hcellx⟩)
  have J2 := Lib.hid (join_any (.slice A2 ys.length c2) (M.names (tl s)) (by have := HT.out; omega) w4 ⟨ys, A2, c2, hy, rfl, hcy, hcelly⟩)
  rw [hl] at J2 ⊢
  clear hl hx hy hcellx hcelly t1 t2 b1 b2 b3 b4
  go_wp2_with fail
  refine J1.out.mono ?_
  rintro e w5 ⟨rfl, rfl⟩
  go_wp2_with fail
  refine J2.out.mono ?_
  rintro e w6 ⟨rfl, rfl⟩
  go_wp2
  go_ret
  refine ⟨ret_bool ?_, b14⟩
  simp

/-- The table of a path's pieces. -/
def pieces : List ByteArray := [⟨#[97]⟩, ⟨#[98]⟩, ⟨#[47]⟩, ⟨#[47]⟩, ⟨#[46]⟩, ⟨#[46, 46]⟩, ⟨#[100, 105, 114]⟩, ⟨#[47, 120]⟩, ⟨#[195, 169]⟩, ⟨#[10]⟩]

theorem piece_cell (wr : World) (j : Nat) (hj : j < 10) : ∃ x : ByteArray, x.size ≤ 3 ∧
    (wr.alloc (.cells #[.string ⟨#[97]⟩, .string ⟨#[98]⟩, .string ⟨#[47]⟩, .string ⟨#[47]⟩, .string ⟨#[46]⟩, .string ⟨#[46, 46]⟩, .string ⟨#[100, 105, 114]⟩, .string ⟨#[47, 120]⟩, .string ⟨#[195, 169]⟩, .string ⟨#[10]⟩] 9)).cell? ⟨wr.heap.size, j, none⟩ = some (.string x) := by
  have h := World.cell?_alloc_mark wr #[.string ⟨#[97]⟩, .string ⟨#[98]⟩, .string ⟨#[47]⟩, .string ⟨#[47]⟩, .string ⟨#[46]⟩, .string ⟨#[46, 46]⟩, .string ⟨#[100, 105, 114]⟩, .string ⟨#[47, 120]⟩, .string ⟨#[195, 169]⟩, .string ⟨#[10]⟩] 9 (0, 0) j
  have hs : ∀ x ∈ pieces, x.size ≤ 3 := by decide
  have hjl : j < pieces.length := hj
  refine ⟨pieces[j], hs _ (List.getElem_mem hjl), h.trans ?_⟩
  have e : (#[Value.string ⟨#[97]⟩, .string ⟨#[98]⟩, .string ⟨#[47]⟩, .string ⟨#[47]⟩, .string ⟨#[46]⟩, .string ⟨#[46, 46]⟩, .string ⟨#[100, 105, 114]⟩, .string ⟨#[47, 120]⟩, .string ⟨#[195, 169]⟩, .string ⟨#[10]⟩] : Array Value) = (pieces.map Value.string).toArray := rfl
  rw [e]
  simp [hjl]

set_option maxRecDepth 100000 in
set_option maxHeartbeats 1000000 in
theorem path_any (A : Option Addr) (n c : Nat) (zs : List Int) (w : World) (h : Rd w w.heap.size A n zs) (hc : n ≤ c) :
    Calls Tryd.prog 10 #[.slice A n c] w fun e w' => ∃ s : ByteArray, e = .returned (.string s) ∧ s.size ≤ 36 ∧ Below w.heap.size w w' := by

  go_enter Tryd.func10, Tryd.ntmps10
  go_wp2
  go_loopw [3, 4] (fun r i wr => ∃ (k : Nat) (s : ByteArray), i = .int .i64 k ∧ r = .string s ∧ k ≤ n ∧ k ≤ 12 ∧ s.size ≤ 3 * k ∧ Below w.heap.size w wr) (fun _ i _ => 12 - (intOf i).toNat)
  case atStart => exact ⟨0, ⟨#[]⟩, rfl, rfl, Nat.zero_le _, by omega, by decide, Below.refl _ _⟩
  case round =>
    obtain ⟨k, s, rfl, rfl, hk, hk12, hs, hb⟩ := hrel
    by_cases hlt : k < n
    · by_cases h12 : k < 12
      · obtain ⟨b, off, z, rfl, hbb, hz0, hz1, hz, hck⟩ := ((h.below hb).alloc hb.size (.cells #[.string ⟨#[97]⟩, .string ⟨#[98]⟩, .string ⟨#[47]⟩, .string ⟨#[47]⟩, .string ⟨#[46]⟩, .string ⟨#[46, 46]⟩, .string ⟨#[100, 105, 114]⟩, .string ⟨#[47, 120]⟩, .string ⟨#[195, 169]⟩, .string ⟨#[10]⟩] 9)).at_ hlt
        obtain ⟨x, hx, hcx⟩ := piece_cell wr (z % 10).toNat (by omega)
        have hbs := hb.size
        have HZ := Lib.hid hz
        have HH := Lib.hid h
        clear hz h
        by_cases hk0 : k = 0
        · subst hk0
          simp only [Nat.add_zero] at hck
          go_wp2
          go_roundw
          case rel => exact ⟨1, s ++ x, by go_num, rfl, by omega, by omega, by rw [ByteArray.size_append]; omega, hb.alloc hbs _⟩
          case measure => simp [intOf]
        · have hk1 : 0 < k := by omega
          clear hk0
          go_wp2
          go_roundw
          case rel => exact ⟨k + 1, s ++ x, by go_num, rfl, by omega, by omega, by rw [ByteArray.size_append]; omega, hb.alloc hbs _⟩
          case measure => simp [intOf]; omega
      · have hd1 : (12 : Int) ≤ (k : Int) := by omega
        clear h h12
        go_wp2
        go_ret
        exact ⟨s, rfl, by omega, hb⟩
    · clear h
      obtain rfl : k = n := by omega
      clear hlt
      go_wp2
      go_ret
      exact ⟨s, rfl, by omega, hb⟩
end Go.Proofs.YtpmhmglckeafgaaDoor
