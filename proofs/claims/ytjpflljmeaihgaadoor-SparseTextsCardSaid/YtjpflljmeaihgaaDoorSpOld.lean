/-
  Old, the program's and the document's; the law's old.
-/
import Derived.Test.YtjpflljmeaihgaaDoorPRefParts
import Derived.Test.YtjpflljmeaihgaaDoorSpMem
import Derived.Test.YtjpflljmeaihgaaDoorSpFrontP
import Derived.Deep.QuietTactic
import Derived.BigQuiet
namespace Go.Proofs.YtjpflljmeaihgaaDoor
open Go.RowKit Go.Lib

theorem parts_le (zs : List Int) : ∀ (n a : Nat), ((H.M.parts zs a n).getD []).length ≤ n
  | 0, a => by simp [H.M.parts]
  | n + 1, a => by
    unfold H.M.parts
    split
    · exact Nat.zero_le _
    · split
      · split
        · exact Nat.zero_le _
        · have := parts_le zs n (a + 24)
          cases h : H.M.parts zs (a + 24) n with
          | none => exact Nat.zero_le _
          | some l => rw [h] at this; simpa using this
      · exact Nat.zero_le _
theorem partsTo_rdp {o : Option (List (Int × Int))} {w w' : World} {e : Ending} (h : H.PartsTo o w e w') :
    ∃ A c, e = .returned (.tuple #[.slice A (o.getD []).length c, .bool o.isSome]) ∧ RdP w' w'.heap.size A (o.getD []).length (o.getD []) ∧ Below w.heap.size w w' := by
  obtain ⟨h, hb⟩ := h
  cases o with
  | none => exact ⟨none, 0, h, RdP.none_, hb⟩
  | some l =>
    obtain ⟨pv, rfl, hp⟩ := h
    obtain ⟨A, c, rfl, h1, h2⟩ := hp
    refine ⟨A, c, rfl, ⟨rfl, fun hl => ?_⟩, hb⟩
    obtain ⟨b, off, e, h3, h4, h5⟩ := h2 hl
    exact ⟨b, off, e, h4, fun j p hp => by
      have := h5 j p hp
      rw [Nat.mul_comm] at this
      exact this⟩
namespace M
/-- What a block tells. -/
def old (zs : List Int) : List Pt × Bool × Bool :=
  if zs.length = 512 then
    match H.M.parts zs 0 21 with
    | none => ([], false, false)
    | some l => (l, zs.getD 504 0 != 0, true)
  else ([], false, false)
theorem old_len {zs : List Int} (h : zs.length ≠ 512) : old zs = ([], false, false) := by unfold old; rw [if_neg h]
theorem old_no {zs : List Int} (h : zs.length = 512) (h2 : H.M.parts zs 0 21 = none) : old zs = ([], false, false) := by unfold old; rw [if_pos h, h2]
theorem old_yes {zs : List Int} {l : List Pt} (h : zs.length = 512) (h2 : H.M.parts zs 0 21 = some l) : old zs = (l, zs.getD 504 0 != 0, true) := by unfold old; rw [if_pos h, h2]
end M
/-- What Old answers. -/
def OldTo (zs : List Int) (w : World) (e : Ending) (w' : World) : Prop :=
  ∃ (A : Option Addr) (c : Nat) (l : List M.Pt) (m ok : Bool), e = .returned (.tuple #[.slice A l.length c, .bool m, .bool ok]) ∧ M.old zs = (l, m, ok) ∧ RdP w' w'.heap.size A l.length l ∧ l.length ≤ 21 ∧ Below w.heap.size w w'
theorem clip_0 : H.M.clip 0 512 = 0 := rfl
theorem clip_21 : H.M.clip 21 21 = 21 := rfl

set_option maxRecDepth 100000 in
set_option maxHeartbeats 2000000 in
theorem old_any (A : Option Addr) (n c : Nat) (zs : List Int) (w : World) (hr : Rd w w.heap.size A n zs) (hc : n ≤ c) (hcm : c ≤ maxLen) (hn : n ≤ 1000000) :
    Calls Tryd.prog 31 #[.slice A n c] w (OldTo zs w) := by
  have HP := hid (H.parts_any A n c zs 0 21 w w.heap.size hr (Nat.le_refl _) hc hcm hn)
  rw [clip_0, clip_21] at HP
  have HZL := hid hr.len
  by_cases h512 : n = 512
  case neg =>
    have HO := hid (M.old_len (show zs.length ≠ 512 by rw [HZL.out]; exact h512))
    have d1 : ((n : Int) != 512) = true := by rw [bne_iff_ne]; omega
    clear hr h512
    go_enter Tryd.func31, Tryd.ntmps31
    go_wp2
    go_ret3
    exact ⟨none, 0, [], false, false, rfl, HO.out, RdP.none_, Nat.zero_le _, Below.refl _ _⟩
  case pos =>
    subst h512
    obtain ⟨b, off, z, rfl, hb, hz0, hz1, hz, hcz⟩ := hr.at_ (k := 504) (by decide)
    have HZ := hid (show zs.getD 504 0 = z by rw [List.getD_eq_getElem?_getD, hz]; rfl)
    have HPL := hid (parts_le zs 21 0)
    have HYES := hid (fun l h => M.old_yes (l := l) HZL.out h)
    have HNO := hid (fun h => M.old_no (zs := zs) HZL.out h)
    have HCZ := hid (fun (W : World) (hW : Below w.heap.size w W) => (hW.cell (p := ⟨b, off + 504, none⟩) hb).trans hcz)
    clear hr hz hcz
    go_enter Tryd.func31, Tryd.ntmps31
    go_wp2_with fail
    (with_reducible refine HP.out.mono ?_)
    intro e w1 ht
    obtain ⟨A1, c1, rfl, hrd, hb1⟩ := partsTo_rdp ht
    have HB1 := hid hb1
    have HRD := hid hrd
    clear ht hrd hb1 HP
    cases ho : H.M.parts zs 0 21 with
    | none =>
      have HO := hid (HNO.out ho)
      clear ho HYES HNO
      go_wp2
      go_ret3
      exact ⟨none, 0, [], false, false, rfl, HO.out, RdP.none_, Nat.zero_le _, HB1.out⟩
    | some l =>
      have HO := hid (HYES.out l ho)
      rw [ho] at HRD HPL
      have hcz := HCZ.out w1 HB1.out
      clear ho HYES HNO HCZ
      have HRD2 := hid (show RdP w1 w1.heap.size A1 l.length l from HRD.out)
      have HPL2 := hid (show l.length ≤ 21 from HPL.out)
      go_wp2_with fail
      go_quiet (fail)
      go_wp2
      go_ret3
      exact ⟨A1, c1, l, z != 0, true, rfl, by rw [HO.out, HZ.out], HRD2.out, HPL2.out, below_drewN' HB1.out _⟩

set_option maxRecDepth 100000 in
set_option maxHeartbeats 2000000 in
theorem refOld_any (A : Option Addr) (n c : Nat) (zs : List Int) (w : World) (hr : Rd w w.heap.size A n zs) (hc : n ≤ c) (hcm : c ≤ maxLen) (hn : n ≤ 1000000) :
    Calls Tryd.prog 32 #[.slice A n c] w (OldTo zs w) := by
  have HP := hid (H.refParts_any A n c zs 0 21 w hr hc hcm hn)
  rw [clip_0, clip_21] at HP
  have HZL := hid hr.len
  by_cases h512 : n = 512
  case neg =>
    have HO := hid (M.old_len (show zs.length ≠ 512 by rw [HZL.out]; exact h512))
    have d1 : ((n : Int) != 512) = true := by rw [bne_iff_ne]; omega
    clear hr h512
    go_enter Tryd.func32, Tryd.ntmps32
    go_wp2
    go_ret3
    exact ⟨none, 0, [], false, false, rfl, HO.out, RdP.none_, Nat.zero_le _, Below.refl _ _⟩
  case pos =>
    subst h512
    obtain ⟨b, off, z, rfl, hb, hz0, hz1, hz, hcz⟩ := hr.at_ (k := 504) (by decide)
    have HZ := hid (show zs.getD 504 0 = z by rw [List.getD_eq_getElem?_getD, hz]; rfl)
    have HPL := hid (parts_le zs 21 0)
    have HYES := hid (fun l h => M.old_yes (l := l) HZL.out h)
    have HNO := hid (fun h => M.old_no (zs := zs) HZL.out h)
    have HCZ := hid (fun (W : World) (hW : Below w.heap.size w W) => (hW.cell (p := ⟨b, off + 504, none⟩) hb).trans hcz)
    clear hr hz hcz
    go_enter Tryd.func32, Tryd.ntmps32
    go_wp2_with fail
    (with_reducible refine HP.out.mono ?_)
    intro e w1 ht
    obtain ⟨A1, c1, rfl, hrd, hb1⟩ := partsTo_rdp ht
    have HB1 := hid hb1
    have HRD := hid hrd
    clear ht hrd hb1 HP
    cases ho : H.M.parts zs 0 21 with
    | none =>
      have HO := hid (HNO.out ho)
      clear ho HYES HNO
      go_wp2
      go_ret3
      exact ⟨none, 0, [], false, false, rfl, HO.out, RdP.none_, Nat.zero_le _, HB1.out⟩
    | some l =>
      have HO := hid (HYES.out l ho)
      rw [ho] at HRD HPL
      have hcz := HCZ.out w1 HB1.out
      clear ho HYES HNO HCZ
      have HRD2 := hid (show RdP w1 w1.heap.size A1 l.length l from HRD.out)
      have HPL2 := hid (show l.length ≤ 21 from HPL.out)
      go_wp2_with fail
      go_quiet (fail)
      go_wp2
      go_ret3
      exact ⟨A1, c1, l, z != 0, true, rfl, by rw [HO.out, HZ.out], HRD2.out, HPL2.out, below_drewN' HB1.out _⟩

set_option maxRecDepth 100000 in
set_option maxHeartbeats 2000000 in
theorem lawOld_any (A : Option Addr) (n c : Nat) (zs : List Int) (w : World) (hr : Rd w w.heap.size A n zs) (hc : n ≤ c) (hcm : c ≤ maxLen) (hn : n ≤ 1000000) :
    Calls Tryd.prog 18 #[.slice A n c] w fun e w' => e = .returned (.bool true) ∧ Below w.heap.size w w' := by
  have H1 := hid (old_any A n c zs w hr hc hcm hn)
  have H2 := hid (fun (W : World) (hW : Below w.heap.size w W) => refOld_any A n c zs W ((hr.below hW).more hW.size) hc hcm hn)
  clear hr hc hcm hn
  go_enter Tryd.func18, Tryd.ntmps18
  go_wp2_with fail
  (with_reducible refine H1.out.mono ?_)
  rintro e w1 ⟨A1, c1, l, m, ok, rfl, ho, hrd, hl, hb1⟩
  have HO := hid ho
  have HR1 := hid hrd
  have HB1 := hid hb1
  have HL := hid hl
  clear ho hrd hb1 H1 hl
  go_wp2_with fail
  (with_reducible refine (H2.out w1 HB1.out).mono ?_)
  rintro e w2 ⟨A2, c2, l2, m2, ok2, rfl, ho, hrd, _, hb2⟩
  rw [HO.out] at ho
  obtain ⟨rfl, rfl, rfl⟩ : l = l2 ∧ m = m2 ∧ ok = ok2 := by
    simp only [Prod.mk.injEq] at ho
    exact ho
  have HB2 := hid (HB1.out.trans (hb2.mono HB1.out.size))
  have HS := hid (same_yes A1 A2 l.length c1 c2 l w2 ((HR1.out.below hb2).more hb2.size) hrd (by have := HL.out; omega))
  clear ho hrd hb2 H2 HB1 HR1
  generalize l.length = nl at *
  go_wp2_with fail
  (with_reducible refine HS.out.mono ?_)
  rintro e w3 ⟨rfl, hb3⟩
  have HB3 := hid (HB2.out.trans (hb3.mono HB2.out.size))
  clear hb3 HS
  go_wp2
  go_ret
  exact ⟨rfl, HB3.out⟩
end Go.Proofs.YtjpflljmeaihgaaDoor
