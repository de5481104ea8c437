/-
  The chapter's examples hold.
-/
import Derived.Test.YtbjejgnfnpednaaDoorHMe
import Derived.Test.YtbjejgnfnpednaaDoorHdParseW
import Derived.Test.YtbjejgnfnpednaaDoorHdPrintW
import Derived.Test.YtbjejgnfnpednaaDoorHdBackM
namespace Go.Proofs.YtbjejgnfnpednaaDoor
open Go.RowKit Go.Lib

namespace M
theorem hparse_nils : hparse (nils 512) = (30, {}) := by
  have h1 : (nils 512).length = 512 := by decide +kernel
  have h2 : right (nils 512) = false := by decide +kernel
  unfold hparse
  rw [if_neg (by rw [h1]; decide), if_pos h2]
/-- The chapter's example. -/
def one : Hdr := { name := ⟨#[97]⟩, kind := 48, way := 1 }
theorem one_ok : (hprint one).1 = 0 := by decide +kernel
end M
/-- A header that is written out, without parts. -/
theorem HIn.bare (w : World) (h : M.Hdr) (hp : h.parts = []) (hk : 0 ≤ h.kind ∧ h.kind ≤ 255)
    (hi : (-9223372036854775808 ≤ h.mode ∧ h.mode ≤ 9223372036854775807) ∧ (-9223372036854775808 ≤ h.uid ∧ h.uid ≤ 9223372036854775807) ∧ (-9223372036854775808 ≤ h.gid ∧ h.gid ≤ 9223372036854775807) ∧ (-9223372036854775808 ≤ h.size ∧ h.size ≤ 9223372036854775807) ∧ (-9223372036854775808 ≤ h.mtime ∧ h.mtime ≤ 9223372036854775807) ∧
      (-9223372036854775808 ≤ h.major ∧ h.major ≤ 9223372036854775807) ∧ (-9223372036854775808 ≤ h.minor ∧ h.minor ≤ 9223372036854775807) ∧ (-9223372036854775808 ≤ h.real ∧ h.real ≤ 9223372036854775807))
    (ht : h.name.size ≤ 100000 ∧ h.link.size ≤ 100000 ∧ h.user.size ≤ 100000 ∧ h.group.size ≤ 100000 ∧ h.pre.size ≤ 100000) : HIn w h (.slice none 0 0) := by
  refine ⟨?_, ?_, hk, hi, ht⟩
  · rw [hp]; exact ⟨none, 0, rfl, Nat.le_refl _, fun h => absurd h (by decide)⟩
  · rw [hp]; intro p hp; cases hp
set_option maxRecDepth 100000 in
set_option maxHeartbeats 1000000 in
theorem lawKnown_any (w : World) (hmg : MG w) : Calls Tryd.prog 10 #[] w fun e w' => e = .returned (.bool true) ∧ Below w.heap.size w w' := by
  have hmk := run_make512
  have hst := store_new
  have HMG := hid (fun (W : World) (hW : Below w.heap.size w W) => hmg.later hW)
  have hb0 := fun W => (show Below w.heap.size w (w.alloc W) from (Below.refl _ _).alloc (Nat.le_refl _) _)
  obtain ⟨zs, hz⟩ : ∃ zs, M.hprint M.one = (0, zs) := ⟨_, by rw [← M.one_ok]⟩
  obtain ⟨S⟩ := M.print_back hz
  go_enter Tryd.func10, Tryd.ntmps10
  go_wp2_with fail
  have hR0 := ((Arr.new w 5 (nils 512)).rd (nils_bd 512) (B := (w.alloc (.cells (bcells (nils 512)).toArray 5)).heap.size) (by simp))
  rw [nils_len] at hR0
  (with_reducible refine (hparse_any (some ⟨w.heap.size, 0, none⟩) 512 512 (nils 512) _ hR0 (Nat.le_refl _) (by decide) (by decide) (HMG.out _ (hb0 _))).mono ?_)
  rintro e w1 ⟨pv1, rfl, hp1, b1⟩
  rw [M.hparse_nils] at hp1 ⊢
  obtain ⟨A1, c1, rfl, _, _⟩ := hp1
  have B1 := hid ((hb0 _).trans (b1.mono (hb0 _).size))
  clear b1 hb0 hR0
  go_wp2_with fail
  have B2 := hid (B1.out.alloc B1.out.size (.cells (hcells {} (.slice A1 (List.length ([] : List (Int × Int))) c1)) 25))
  clear B1
  generalize w1.alloc _ = w2 at *
  refine (hprint_any M.one (.slice none 0 0) w2 (HIn.bare _ _ rfl (by decide) (by decide) (by decide)) (HMG.out _ B2.out)).mono ?_
  rintro e w3 ⟨h3, b3⟩
  rw [hz, if_pos rfl] at h3
  obtain ⟨g, rfl, hg, hA⟩ := h3
  have B3 := hid (B2.out.trans (b3.mono B2.out.size))
  clear b3 B2
  go_wp2_with fail
  have hR3 := hA.rd S.bd (B := w3.heap.size) hA.lt
  rw [S.lout] at hR3
  (with_reducible refine (hparse_any (some ⟨g, 0, none⟩) 512 512 zs _ hR3 (Nat.le_refl _) (by decide) (by decide) (HMG.out _ B3.out)).mono ?_)
  rintro e w4 ⟨pv4, rfl, hp4, b4⟩
  rw [S.back] at hp4 ⊢
  obtain ⟨A4, c4, rfl, _, _⟩ := hp4
  have hA4 := hA.below b4 hA.lt
  have c156 : ∀ W, Below w4.heap.size w4 W → W.cell? ⟨g, 156, none⟩ = some (.int .u8 48) := fun W hW => (hA4.below hW hA4.lt).cell (by
    have := S.byte_kind
    unfold M.byt at this
    rw [List.getD_eq_getElem?_getD] at this
    have hl : 156 < zs.length := by rw [S.lout]; decide
    rw [List.getElem?_eq_getElem hl] at this ⊢
    exact congrArg some this)
  have HN := hid (HB.new w4 M.one (.slice A4 M.one.parts.length c4))
  have B4 := hid ((B3.out.trans (b4.mono B3.out.size)).alloc (B3.out.trans (b4.mono B3.out.size)).size (.cells (hcells M.one (.slice A4 M.one.parts.length c4)) 25))
  have C5 := hid (c156 _ ((Below.refl _ _).alloc (Nat.le_refl _) (.cells (hcells M.one (.slice A4 M.one.parts.length c4)) 25)))
  have c5 := C5.out
  have k0 := HN.out.cell (i := 0) (v := .string ⟨#[97]⟩) rfl
  have k8 := HN.out.cell (i := 8) (v := .int .i64 1) rfl
  clear hA4 c156 b4 B3 hR3 hA C5 HN
  go_wp2
  go_ret
  exact ⟨rfl, B4.out⟩
end Go.Proofs.YtbjejgnfnpednaaDoor
