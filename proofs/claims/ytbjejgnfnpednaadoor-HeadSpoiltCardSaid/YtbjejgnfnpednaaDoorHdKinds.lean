/-
  HeadKinds.
-/
import Derived.Test.YtbjejgnfnpednaaDoorHdLaw
import Derived.Test.YtbjejgnfnpednaaDoorHdErr
namespace Go.Proofs.YtbjejgnfnpednaaDoor
open Go.RowKit Go.Lib

theorem zero_in : (-9223372036854775808 : Int) ≤ 0 ∧ (0 : Int) ≤ 9223372036854775807 := by decide
theorem kindH_in (w : World) (k s : Int) (hk : 0 ≤ k ∧ k ≤ 255) (hs : 0 ≤ s ∧ s ≤ 65535) : HIn w (M.kindH k s) (.slice none 0 0) :=
  HIn.bare _ _ rfl hk ⟨zero_in, zero_in, zero_in, ⟨Int.le_trans (by decide) hs.1, Int.le_trans hs.2 (by decide)⟩, zero_in, zero_in, zero_in, zero_in⟩
    ⟨show (1 : Nat) ≤ 100000 by decide, show (0 : Nat) ≤ 100000 by decide, show (0 : Nat) ≤ 100000 by decide, show (0 : Nat) ≤ 100000 by decide, show (0 : Nat) ≤ 100000 by decide⟩

set_option maxRecDepth 100000 in
set_option maxHeartbeats 1000000 in
theorem headKinds_any (k s : Int) (hk : 0 ≤ k ∧ k ≤ 255) (hs : 0 ≤ s ∧ s ≤ 65535) (w : World) (hmg : MG w) :
    Calls Tryd.prog 4 #[.int .u8 k, .int .u16 s] w fun e w' => e = .returned (.bool true) ∧ Below w.heap.size w w' := by
  have hst := store_new
  have HMG := hid (fun (W : World) (hW : Below w.heap.size w W) => hmg.later hW)
  have hwr : IntKind.i64.wrap s = s := IntWalk.i64_in _ (by omega)
  have HIn0 := hid (kindH_in w k s hk hs)
  by_cases hno : M.known k = false ∨ k = 83
  · have hx := M.kindH_no k s hno
    have hno' : (!M.known k || k == 83) = true := by rcases hno with h | h <;> simp [h]
    go_enter Tryd.func4, Tryd.ntmps4
    go_wp2_with fail
    refine (hprint_any (M.kindH k s) (.slice none 0 0) w HIn0.out (HMG.out _ (Below.refl _ _))).mono ?_
    rintro e w1 ⟨h1, b1⟩
    rw [hx, if_neg (by decide)] at h1
    subst h1
    go_wp2_with fail
    (with_reducible refine (known_any k _).mono ?_)
    rintro e w9 ⟨rfl, rfl⟩
    cases hkn : M.known k with
    | false =>
      go_wp2_with fail
      (with_reducible refine (lawKnown_any _ (HMG.out _ b1)).mono ?_)
      rintro e w2 ⟨rfl, b2⟩
      go_wp2
      go_ret
      exact ⟨rfl, b1.trans (b2.mono b1.size)⟩
    | true =>
      have hk83 : k = 83 := by
        rcases hno with h | h
        · rw [h] at hkn; cases hkn
        · exact h
      have hke : (k == 83) = true := by rw [hk83]; rfl
      go_wp2_with fail
      (with_reducible refine (lawKnown_any _ (HMG.out _ b1)).mono ?_)
      rintro e w2 ⟨rfl, b2⟩
      go_wp2
      go_ret
      exact ⟨rfl, b1.trans (b2.mono b1.size)⟩
  · have hkn : M.known k = true := by cases h : M.known k with
      | true => rfl
      | false => exact absurd (Or.inl h) hno
    have h83 : k ≠ 83 := fun h => hno (Or.inr h)
    have hke : (k == 83) = false := by simpa using h83
    obtain ⟨zs, hz⟩ : ∃ zs, M.hprint (M.kindH k s) = (0, zs) := ⟨_, by rw [← M.kindH_yes k s hkn h83 hs.1 hs.2]⟩
    obtain ⟨S⟩ := M.print_back hz
    clear hno
    go_enter Tryd.func4, Tryd.ntmps4
    go_wp2_with fail
    refine (hprint_any (M.kindH k s) (.slice none 0 0) w HIn0.out (HMG.out _ (Below.refl _ _))).mono ?_
    rintro e w1 ⟨h1, b1⟩
    rw [hz, if_pos rfl] at h1
    obtain ⟨g, rfl, hg, hA⟩ := h1
    have B1 := hid b1
    clear b1
    go_wp2_with fail
    (with_reducible refine (known_any k _).mono ?_)
    rintro e w9 ⟨rfl, rfl⟩
    rw [hkn]
    go_wp2_with fail
    have hR := hA.rd S.bd (B := w1.heap.size) hA.lt
    rw [S.lout] at hR
    (with_reducible refine (hparse_any (some ⟨g, 0, none⟩) 512 512 zs _ hR (Nat.le_refl _) (by decide) (by decide) (HMG.out _ B1.out)).mono ?_)
    rintro e w4 ⟨pv4, rfl, hp4, b4⟩
    rw [S.back] at hp4 ⊢
    obtain ⟨A4, c4, rfl, _, _⟩ := hp4
    have HN := hid (HB.new w4 (M.kindH k s) (.slice A4 (M.kindH k s).parts.length c4))
    have B4 := hid ((B1.out.trans (b4.mono B1.out.size)).alloc (B1.out.trans (b4.mono B1.out.size)).size (.cells (hcells (M.kindH k s) (.slice A4 (M.kindH k s).parts.length c4)) 25))
    clear b4 B1 hR hA
    go_wp2_with fail
    generalize w4.alloc _ = w5 at *
    (with_reducible refine (lawKnown_any _ (HMG.out _ B4.out)).mono ?_)
    rintro e w6 ⟨rfl, b6⟩
    have HN' := HB.below HN.out b6 (HB.lt HN.out)
    have k6 := HB.cell HN' (i := 6) (v := .int .u8 k) rfl
    have k4 := HB.cell HN' (i := 4) (v := .int .i64 s) rfl
    go_wp2
    go_ret
    exact ⟨rfl, B4.out.trans (b6.mono B4.out.size)⟩
end Go.Proofs.YtbjejgnfnpednaaDoor
