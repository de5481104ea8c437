/-
  Texts of one chapter, merged.
-/
import Derived.Test.YtbhpedhdhgjkoaaGreatDoorMtFrom
import Derived.Test.YtbhpedhdhgjkoaaGreatDoorMtWhat
import Derived.Test.YtbhpedhdhgjkoaaGreatDoorMtExtra
import Derived.IntWalk
import Derived.Test.YtbhpedhdhgjkoaaGreatDoorMtQuiet
import Derived.Laws.Cover1
import Derived.Test.YtbhpedhdhgjkoaaGreatDoorMtSplit
import Derived.Test.YtbhpedhdhgjkoaaGreatDoorMtKeys
import Derived.Deep.CutRange
import Derived.Test.YtbhpedhdhgjkoaaGreatDoorKX
import Derived.Test.YtbhpedhdhgjkoaaGreatDoorKS
import Derived.Test.YtbhpedhdhgjkoaaGreatDoorMtBox
import Derived.Laws.StructEq
import Derived.Test.YtbhpedhdhgjkoaaGreatDoorKhF
import Derived.Test.YtbhpedhdhgjkoaaGreatDoorMtFin
import Derived.Test.YtbhpedhdhgjkoaaGreatDoorRows
import Derived.WalkKit
import Derived.ProofKit
import Derived.OpenShut
import Derived.ShutString
import Derived.ChangeOld
import Derived.ChangeSame
import Derived.LaidMore
import Derived.Lib.LaidTab
import Derived.MakeChecks
import Derived.Stop.LaidErr
set_option linter.unusedVariables false
set_option linter.unusedSimpArgs false
/-! The chapter's example holds. -/
namespace Go.Proofs.YtbhpedhdhgjkoaaGreatDoor
open Go.RowKit Go.Lib
open Px (R2 tl)
attribute [local go_sem ↓] add_plain
theorem ex_fit : Fit1 M.exM where
  kind := by decide
  name := by decide
  link := by decide
  user := by decide
  group := by decide
  mode := isI64_0
  uid := isI64_le (k := 3000000) (by decide) (by decide)
  gid := isI64_0
  sec := isI64_0
  nan := isI64_0
  major := isI64_0
  minor := isI64_0
  sz := isI64_0
  real := isI64_0
set_option maxRecDepth 100000 in
set_option maxHeartbeats 4000000 in
theorem known_any (B : Nat) (w : World) (hB : B ≤ w.heap.size) (ht : Sp.EV B w) : Calls Tryz.prog 7 #[] w fun e w' => e = .returned (.bool true) ∧ Below w.heap.size w w' := by
  have HT := hid (to_any M.exM (.slice none 0 0) (.slice none 0 0) B w (min_plain ex_fit rfl rfl) hB ht)
  have HEV := hid ht
  clear ht
  go_enter Tryz.func7, Tryz.ntmps7
  go_wp2_with fail
  refine HT.out.mono ?_
  rintro e w1 ⟨A, c, rfl, hr1, hc1, hb1⟩
  have HFI := hid (fun (W : World) (hW : Below w1.heap.size w1 W) => fin_to (w := W) (m := M.exM) (by intro r hr; cases hr) ((hr1.below hW).more hW.size))
  have HR1 := hid (show Px.RdR w1 w1.heap.size A [((⟨#[117, 105, 100]⟩, ⟨#[51, 48, 48, 48, 48, 48, 48]⟩) : R2)] from by rw [M.ex_head.2] at hr1; exact hr1)
  have HB1 := hid hb1
  have hl1 : (M.toR M.exM).length = 1 := by rw [M.ex_head.2]; rfl
  rw [hl1, M.ex_toE]
  clear HT hr1 hc1 hb1
  have HF := hid (fun (c : Nat) (W : World) (hW : Below w1.heap.size w1 W) => from_any (M.toH M.exM) (.slice none 0 0) ((M.toR M.exM).map M.mk) [] [] [] A none none none c 0 0 0 B W (HFI.out W hW) (Nat.le_trans hB (Nat.le_trans HB1.out.size hW.size)) (HEV.out.on ((HB1.out.trans (hW.mono HB1.out.size)).mono hB)))
  unfold FromIs at HF
  rw [List.length_map, hl1, rcs_mk, (M.from_to M.ex_toE).1, (M.from_to M.ex_toE).2] at HF
  have hu := M.ex_head.1
  clear hl1 HFI
  generalize M.toH M.exM = H at *
  go_upto_region 2 with (refine wpList_store_row rfl 34 (.tmp 1) (.tmp 9) rfl w1.heap.size (hcells H (.slice none 0 0)) (by simp [Act.eval]) (by simp [Act.eval]) 34 (hcells {} (.slice none 0 0)) (heap_alloc_new w1 _) hdr_size rfl (hcells_one _ rfl) ?_; rw [World.setRow_alloc_new])
  have hb2 := (Below.refl w1.heap.size w1).alloc (Nat.le_refl _) (.cells (hcells H (.slice none 0 0)) 34)
  have HH2 := hid (HB.new w1 H (.slice none 0 0))
  have hs2 := World.size_alloc w1 (.cells (hcells H (.slice none 0 0)) 34)
  have HF2 := hid (HF.out c _ hb2)
  have HR2 := hid ((HR1.out.below hb2).more hb2.size)
  have HB2 := hid (HB1.out.trans (hb2.mono HB1.out.size))
  clear HF HR1 HB1 hb2
  generalize World.alloc w1 _ = w2 at *
  go_wp2_with (refine wpList_load_row rfl 34 (.tmp 1) rfl w1.heap.size (by rfl) 34 (hcells H (.slice none 0 0)) (0, 0) _ HH2.out Tryz.underlying34 rfl hdr_size ?_)
  refine HF2.out.mono ?_
  rintro e w3 ⟨pv, ev, rfl, hmi, hb3⟩
  have HH3 := HH2.out.below hb3 (by omega)
  have hr3 := HR2.out.below hb3
  have hs3 := hb3.size
  have HB3 := hid (HB2.out.trans (hb3.mono HB2.out.size))
  obtain ⟨b, off, rfl, hbb, c0, _⟩ := hr3.at_ (k := 0) (by decide)
  have y3 := HH3.cell (i := 2) (v := .int .i64 H.uid) rfl
  rw [hu] at y3
  simp only [Nat.zero_mul, Nat.add_zero, List.getElem_cons_zero] at c0
  have hbl : b < w3.heap.size := by omega
  have hpv : pv.oneCell' = true := by
    obtain ⟨A2, c2, e, _⟩ := hmi.parts
    rw [e]; rfl
  have hev : ev.oneCell' = true := by
    obtain ⟨A2, c2, e, _⟩ := hmi.extra
    rw [e]; rfl
  have HP := hid (And.intro hpv hev)
  clear HF2 HR2 HB2 HH2 hr3 HH3 hmi hpv hev
  go_upto_region 3 with (refine wpList_store_row rfl 28 (.tmp 4) (.tmp 16) rfl w3.heap.size (mcells M.exM pv ev) (by simp [Act.eval]) (by simp [Act.eval]) 28 (mcells {} (.slice none 0 0) (.slice none 0 0)) (heap_alloc_new w3 _) met_size rfl (mcells_one _ HP.out.1 HP.out.2) ?_; rw [World.setRow_alloc_new])
  have MB4 := MB.new w3 M.exM pv ev
  have x4 := MB4.cell (i := 4) (v := .int .i64 3000000) rfl
  have x0 := MB4.cell (i := 0) (v := .string ⟨#[97]⟩) rfl
  have HB4 := hid (HB3.out.alloc HB3.out.size (.cells (mcells M.exM pv ev) 28))
  have y3' := (World.cell?_alloc_lt w3 (.cells (mcells M.exM pv ev) 28) ⟨w1.heap.size, 2, none⟩ (by show w1.heap.size < _; omega)).trans y3
  have c0' := (World.cell?_alloc_lt w3 (.cells (mcells M.exM pv ev) 28) ⟨b, off, none⟩ hbl).trans c0
  clear MB4 HB3 y3 c0
  generalize World.alloc w3 _ = w4 at *
  go_wp2
  go_ret
  exact ⟨rfl, HB4.out⟩
end Go.Proofs.YtbhpedhdhgjkoaaGreatDoor

/-! Records that nobody knows stay, by rising keys. -/
/-! The document's keys; records of choices. -/
namespace Go.Proofs.YtbhpedhdhgjkoaaGreatDoor
open Go.RowKit Go.Lib
open Px (R2 tl)
attribute [local go_sem ↓] add_plain
def keyL : List ByteArray := [M.kPath, M.kLink, M.kUser, M.kGroup, M.kUid, M.kGid, M.kSize, M.kTime, M.kMap, M.kReal]
def keyCells : Array Value := #[.string M.kPath, .string M.kLink, .string M.kUser, .string M.kGroup, .string M.kUid, .string M.kGid, .string M.kSize, .string M.kTime, .string M.kMap, .string M.kReal]
theorem key_cell (w : World) (j : Nat) (hj : j < keyL.length) : (w.alloc (.cells keyCells 9)).cell? ⟨w.heap.size, j, none⟩ = some (.string keyL[j]) := by
  have h := World.cell?_alloc_mark w keyCells 9 (0, 0) j
  refine h.trans ?_
  have e : keyCells = (keyL.map Value.string).toArray := rfl
  rw [e]
  simp [hj]
set_option maxRecDepth 100000 in
theorem keys_any (w : World) : Calls Tryz.prog 22 #[] w fun e w' => e = .returned (.slice (some ⟨w.heap.size, 0, none⟩) 10 10) ∧ w' = w.alloc (.cells keyCells 9) := by
  go_enter Tryz.func22, Tryz.ntmps22
  go_wp2
  go_ret
  exact ⟨rfl, rfl⟩
end Go.Proofs.YtbhpedhdhgjkoaaGreatDoor

/-! Records of choices. -/
namespace Go.Proofs.YtbhpedhdhgjkoaaGreatDoor
open Go.RowKit Go.Lib
open Px (R2 tl)
attribute [local go_sem ↓] add_plain
def valL : List ByteArray := [⟨#[]⟩, ⟨#[49]⟩, ⟨#[55, 55]⟩, ⟨#[120, 47, 121]⟩, ⟨#[48, 44, 53, 44, 57, 44, 49]⟩, ⟨#[54]⟩, ⟨#[49, 46, 53]⟩, ⟨#[45, 51]⟩, ⟨#[57, 57, 57, 57, 57, 57, 57, 57, 57, 57, 57, 57, 57, 57, 57, 57, 57, 57, 57, 57]⟩, ⟨#[52, 54, 49, 49, 54, 56, 54, 48, 49, 56, 52, 50, 55, 51, 56, 55, 57, 48, 53]⟩, ⟨#[49, 48, 57, 57, 53, 49, 49, 54, 50, 55, 55, 55, 55]⟩, ⟨#[48, 44, 48]⟩]
theorem val_cell (wr : World) (j : Nat) (hj : j < 12) : ∃ x : ByteArray, x.size ≤ 100 ∧ (wr.alloc (.cells #[.string ⟨#[]⟩, .string ⟨#[49]⟩, .string ⟨#[55, 55]⟩, .string ⟨#[120, 47, 121]⟩, .string ⟨#[48, 44, 53, 44, 57, 44, 49]⟩, .string ⟨#[54]⟩, .string ⟨#[49, 46, 53]⟩, .string ⟨#[45, 51]⟩, .string ⟨#[57, 57, 57, 57, 57, 57, 57, 57, 57, 57, 57, 57, 57, 57, 57, 57, 57, 57, 57, 57]⟩, .string ⟨#[52, 54, 49, 49, 54, 56, 54, 48, 49, 56, 52, 50, 55, 51, 56, 55, 57, 48, 53]⟩, .string ⟨#[49, 48, 57, 57, 53, 49, 49, 54, 50, 55, 55, 55, 55]⟩, .string ⟨#[48, 44, 48]⟩] 9)).cell? ⟨wr.heap.size, j, none⟩ = some (.string x) := by
  have h := World.cell?_alloc_mark wr #[.string ⟨#[]⟩, .string ⟨#[49]⟩, .string ⟨#[55, 55]⟩, .string ⟨#[120, 47, 121]⟩, .string ⟨#[48, 44, 53, 44, 57, 44, 49]⟩, .string ⟨#[54]⟩, .string ⟨#[49, 46, 53]⟩, .string ⟨#[45, 51]⟩, .string ⟨#[57, 57, 57, 57, 57, 57, 57, 57, 57, 57, 57, 57, 57, 57, 57, 57, 57, 57, 57, 57]⟩, .string ⟨#[52, 54, 49, 49, 54, 56, 54, 48, 49, 56, 52, 50, 55, 51, 56, 55, 57, 48, 53]⟩, .string ⟨#[49, 48, 57, 57, 53, 49, 49, 54, 50, 55, 55, 55, 55]⟩, .string ⟨#[48, 44, 48]⟩] 9 (0, 0) j
  have hs : ∀ x ∈ valL, x.size ≤ 100 := by decide
  have hjl : j < valL.length := hj
  refine ⟨valL[j], hs _ (List.getElem_mem hjl), h.trans ?_⟩
  have e : (#[Value.string ⟨#[]⟩, .string ⟨#[49]⟩, .string ⟨#[55, 55]⟩, .string ⟨#[120, 47, 121]⟩, .string ⟨#[48, 44, 53, 44, 57, 44, 49]⟩, .string ⟨#[54]⟩, .string ⟨#[49, 46, 53]⟩, .string ⟨#[45, 51]⟩, .string ⟨#[57, 57, 57, 57, 57, 57, 57, 57, 57, 57, 57, 57, 57, 57, 57, 57, 57, 57, 57, 57]⟩, .string ⟨#[52, 54, 49, 49, 54, 56, 54, 48, 49, 56, 52, 50, 55, 51, 56, 55, 57, 48, 53]⟩, .string ⟨#[49, 48, 57, 57, 53, 49, 49, 54, 50, 55, 55, 55, 55]⟩, .string ⟨#[48, 44, 48]⟩] : Array Value) = (valL.map Value.string).toArray := rfl
  rw [e]
  simp [hjl]
theorem keyL_size : ∀ x ∈ keyL, x.size ≤ 100 := by decide
/-- What Recs answers: some short ones. -/
def RecsIs (w : World) (e : Ending) (w' : World) : Prop :=
  ∃ A c rs, e = .returned (.slice A rs.length c) ∧ Px.RdR w' w'.heap.size A rs ∧ rs.length ≤ c ∧ rs.length ≤ 12 ∧ (∀ r ∈ rs, r.1.size ≤ 100 ∧ r.2.size ≤ 100) ∧ Below w.heap.size w w'
theorem short_snoc {rs : List R2} {r : R2} (h : ∀ r ∈ rs, r.1.size ≤ 100 ∧ r.2.size ≤ 100) (h1 : r.1.size ≤ 100) (h2 : r.2.size ≤ 100) : ∀ x ∈ rs ++ [r], x.1.size ≤ 100 ∧ x.2.size ≤ 100 := fun x hx => by
  rcases List.mem_append.1 hx with hx | hx
  · exact h x hx
  · rw [List.mem_singleton] at hx
    subst hx
    exact ⟨h1, h2⟩

set_option maxRecDepth 100000 in
set_option maxHeartbeats 8000000 in
theorem recs_any (A : Option Addr) (n c : Nat) (zs : List Int) (hn : n ≤ maxLen) (w : World) (h : Sp.Rd w w.heap.size A n zs) :
    Calls Tryz.prog 6 #[.slice A n c] w (RecsIs w) := by
  unfold maxLen at hn
  have HR := Lib.hid h
  clear h
  go_enter Tryz.func6, Tryz.ntmps6
  go_wp2_with (go_at_call 22; (with_reducible refine (keys_any _).mono ?_); rintro e w1 ⟨rfl, rfl⟩)
  have HB := hid ((Below.refl w.heap.size w).alloc (Nat.le_refl _) (.cells keyCells 9))
  have HC := hid (key_cell w)
  have HSZ := hid (World.size_alloc w (.cells keyCells 9))
  generalize World.alloc w _ = W at *
  go_loopw [3, 5] (fun v i wr => ∃ (q : Nat) (rs : List R2), i = .int .i64 ((2 * q : Nat) : Int) ∧ q ≤ 6 ∧ Hid (Px.OwnR wr W.heap.size v rs) ∧ rs.length ≤ 2 * q ∧ Hid (∀ r ∈ rs, r.1.size ≤ 100 ∧ r.2.size ≤ 100) ∧ Hid (Below W.heap.size W wr)) (fun _ i _ => 12 - (intOf i).toNat)
  case atStart => exact ⟨0, [], rfl, by omega, hid (Px.OwnR.nil _ _), Nat.zero_le _, hid (fun r hr => by cases hr), hid (Below.refl _ _)⟩
  case round =>
    obtain ⟨q, rs, rfl, hq, HO, hrq, HG, HW⟩ := hrel
    obtain ⟨k, hk⟩ : ∃ k, k = 2 * q := ⟨_, rfl⟩
    rw [← hk]
    have hbs := HW.out.size
    by_cases hlt : k + 1 < n
    · by_cases hl12 : k < 12
      · obtain ⟨b, off, rfl, hbb, hcell⟩ := HR.out.2.2 (by omega)
        have hlen := HR.out.len
        have hk0l : k < zs.length := by omega
        have hk1l : k + 1 < zs.length := by omega
        have h0 := hcell k _ (List.getElem?_eq_getElem hk0l)
        have h1 := hcell (k + 1) _ (List.getElem?_eq_getElem hk1l)
        have hz0 := HR.out.bd _ (List.getElem_mem hk0l)
        have hz1 := HR.out.bd _ (List.getElem_mem hk1l)
        obtain ⟨z0, hz0e⟩ : ∃ z, zs[k] = z := ⟨_, rfl⟩
        obtain ⟨z1, hz1e⟩ : ∃ z, zs[k + 1] = z := ⟨_, rfl⟩
        rw [hz0e] at h0 hz0
        rw [hz1e] at h1 hz1
        have HD0 := Lib.hid (fun (V : World) (hV : Below W.heap.size W V) => (HB.out.trans (hV.mono (by rw [HSZ.out]; omega))).cell (p := ⟨b, off + k, none⟩) hbb |>.trans h0)
        have d0 := HD0.out _ HW.out
        have d1 := (HB.out.trans (HW.out.mono (by rw [HSZ.out]; omega))).cell (p := ⟨b, off + (k + 1), none⟩) hbb |>.trans h1
        have HZ0 := hid hz0
        obtain ⟨hz10, hz11⟩ := hz1
        have HK := hid hk
        have hrl : rs.length ≤ 1000 := by omega
        obtain ⟨x, hx, hcx⟩ := val_cell wr (z1 % 12).toNat (by omega)
        have HX := hid hx
        have HCX := hid hcx
        have hbl : b < wr.heap.size := by have := HSZ.out; omega
        clear hcell h0 h1 hz0e hz1e hlen hk0l hk1l hz0 hk hx
        go_upto_region 7 with fail
        have HW1 := hid (HW.out.alloc hbs (.cells #[.string ⟨#[]⟩, .string ⟨#[49]⟩, .string ⟨#[55, 55]⟩, .string ⟨#[120, 47, 121]⟩, .string ⟨#[48, 44, 53, 44, 57, 44, 49]⟩, .string ⟨#[54]⟩, .string ⟨#[49, 46, 53]⟩, .string ⟨#[45, 51]⟩, .string ⟨#[57, 57, 57, 57, 57, 57, 57, 57, 57, 57, 57, 57, 57, 57, 57, 57, 57, 57, 57, 57]⟩, .string ⟨#[52, 54, 49, 49, 54, 56, 54, 48, 49, 56, 52, 50, 55, 51, 56, 55, 57, 48, 53]⟩, .string ⟨#[49, 48, 57, 57, 53, 49, 49, 54, 50, 55, 55, 55, 55]⟩, .string ⟨#[48, 44, 48]⟩] 9))
        have HO1 := hid (HO.out.alloc (.cells #[.string ⟨#[]⟩, .string ⟨#[49]⟩, .string ⟨#[55, 55]⟩, .string ⟨#[120, 47, 121]⟩, .string ⟨#[48, 44, 53, 44, 57, 44, 49]⟩, .string ⟨#[54]⟩, .string ⟨#[49, 46, 53]⟩, .string ⟨#[45, 51]⟩, .string ⟨#[57, 57, 57, 57, 57, 57, 57, 57, 57, 57, 57, 57, 57, 57, 57, 57, 57, 57, 57, 57]⟩, .string ⟨#[52, 54, 49, 49, 54, 56, 54, 48, 49, 56, 52, 50, 55, 51, 56, 55, 57, 48, 53]⟩, .string ⟨#[49, 48, 57, 57, 53, 49, 49, 54, 50, 55, 55, 55, 55]⟩, .string ⟨#[48, 44, 48]⟩] 9))
        clear hcx HCX HO HW d0 d1
        generalize World.alloc wr _ = V1 at *
        have d0 := HD0.out _ HW1.out
        have hz := HZ0.out
        obtain ⟨hz00, hz01⟩ := hz
        have hbs1 := HW1.out.size
        have hyl : (z0 % 10).toNat < keyL.length := by show _ < 10; omega
        obtain ⟨y, hy⟩ : ∃ y, keyL[(z0 % 10).toNat] = y := ⟨_, rfl⟩
        have hY := keyL_size _ (List.getElem_mem hyl)
        have hcy := (HW1.out.cell (p := ⟨w.heap.size, (z0 % 10).toNat, none⟩) (by show w.heap.size < _; have := HSZ.out; omega)).trans (HC.out _ hyl)
        rw [hy] at hY hcy
        have HY := hid hY
        clear hyl hy hY
        go_upto_region 8 with (at_builtin; refine Px.wpList_appR rfl (.tmp 28) (.tmp 39) rfl W.heap.size u3 rs (y, x) rfl rfl rfl HO1.out hbs1 rfl (by omega) ?_)
        intro v4 w4 rs2 HRS hn4 o4 hb4 hg4
        have HW4 := hid (HW1.out.trans hb4)
        have HO4 := hid o4
        have HG4 := hid (show ∀ r ∈ rs2, r.1.size ≤ 100 ∧ r.2.size ≤ 100 from by rw [HRS.out]; exact short_snoc HG.out HY.out HX.out)
        clear hb4 hg4 o4 d0 hcy HO1 HW1 HG hbs1
        have d0 := HD0.out _ HW4.out
        have hbs4 := HW4.out.size
        by_cases h240 : z0 > 240
        · go_wp2_with (at_builtin; refine Px.wpList_appR rfl (.tmp 46) (.tmp 49) rfl W.heap.size v4 rs2 (⟨#[111, 116, 104, 101, 114]⟩, x) rfl rfl rfl HO4.out hbs4 rfl (by omega) ?_)
          intro v5 w5 rs3 HRS5 hn5 o5 hb5 hg5
          have HW5 := hid (HW4.out.trans hb5)
          have HO5 := hid o5
          have HG5 := hid (show ∀ r ∈ rs3, r.1.size ≤ 100 ∧ r.2.size ≤ 100 from by rw [HRS5.out]; exact short_snoc HG4.out (show (⟨#[111, 116, 104, 101, 114]⟩ : ByteArray).size ≤ 100 by decide) HX.out)
          clear hb5 hg5 o5 d0 HO4 HW4 HG4
          go_wp2
          go_roundw
          case rel => exact ⟨q + 1, rs3, by have := HK.out; first | (congr 1; omega) | go_num, by have := HK.out; omega, HO5, by have := HK.out; omega, HG5, HW5⟩
          case measure => simp [intOf]; omega
        · go_wp2_with fail
          go_roundw
          case rel => exact ⟨q + 1, rs2, by have := HK.out; first | (congr 1; omega) | go_num, by have := HK.out; omega, HO4, by have := HK.out; omega, HG4, HW4⟩
          case measure => simp [intOf]; omega
      · obtain ⟨A4, c4, rfl, hr4, hc4, hm4⟩ := HO.out.rd
        have HR4 := hid hr4
        have HK := hid hk
        clear hr4 hk
        have hge : (12 : Int) ≤ (k : Int) := by omega
        clear hl12
        go_wp2
        go_ret
        exact ⟨A4, c4, rs, rfl, HR4.out, hc4, by omega, HG.out, HB.out.trans (HW.out.mono HB.out.size)⟩
    · obtain ⟨A4, c4, rfl, hr4, hc4, hm4⟩ := HO.out.rd
      have HR4 := hid hr4
      have HK := hid hk
      have hk13 : k ≤ 12 := by omega
      clear hr4 hk
      have hge : (n : Int) ≤ (k : Int) + 1 := by omega
      clear hlt
      go_wp2
      go_ret
      exact ⟨A4, c4, rs, rfl, HR4.out, hc4, by omega, HG.out, HB.out.trans (HW.out.mono HB.out.size)⟩
end Go.Proofs.YtbhpedhdhgjkoaaGreatDoor

/-! Records that nobody knows stay, by rising keys. -/
namespace Go.Proofs.YtbhpedhdhgjkoaaGreatDoor
open Go.RowKit Go.Lib
open Px (R2 tl)
attribute [local go_sem ↓] add_plain
end Go.Proofs.YtbhpedhdhgjkoaaGreatDoor

/-! Split of any text, and Same of any two, are what the chapter says. -/
/-! A name, and what stands ahead of it: the document's answer; both are the same. -/
namespace Go.Proofs.YtbhpedhdhgjkoaaGreatDoor
open Go.RowKit Go.Lib
open Px (R2 tl)

end Go.Proofs.YtbhpedhdhgjkoaaGreatDoor

/-! A text of choices. -/
namespace Go.Proofs.YtbhpedhdhgjkoaaGreatDoor
open Go.RowKit Go.Lib
open Px (R2 tl)
attribute [local go_sem ↓] add_plain
end Go.Proofs.YtbhpedhdhgjkoaaGreatDoor

/-! Are two rows the same? -/
namespace Go.Proofs.YtbhpedhdhgjkoaaGreatDoor
open Go.RowKit Go.Lib
open Px (R2 tl)
attribute [local go_sem ↓] add_plain
theorem ret_b {a b : Bool} (h : a = b) : Ending.returned (.bool a) = .returned (.bool b) := by rw [h]
theorem takeP_same {α : Type} {l m : List α} {k : Nat} (hl : k < l.length) (hm : k < m.length) (h : l.take k = m.take k) (h2 : l[k] = m[k]) : l.take (k + 1) = m.take (k + 1) := by
  rw [List.take_succ_eq_append_getElem hl, List.take_succ_eq_append_getElem hm, h, h2]

set_option maxRecDepth 100000 in
set_option maxHeartbeats 1000000 in
theorem sameR_any (A : Option Addr) (c : Nat) (l : List (R2)) (A' : Option Addr) (c' : Nat) (m : List (R2)) (hl : l.length ≤ 9223372036854775807) (hm : m.length ≤ 9223372036854775807) (B : Nat) (w : World) (h : Px.RdR w B A l) (h' : Px.RdR w B A' m) :
    Calls Tryz.prog 29 #[.slice A l.length c, .slice A' m.length c'] w fun e w' => e = .returned (.bool (decide (l = m))) ∧ Below w.heap.size w w' := by
  by_cases hlm : l.length = m.length
  · have HR := Lib.hid h
    have HR' := Lib.hid h'
    have hle1 : l.length ≤ m.length := by omega
    have hle2 : m.length ≤ l.length := by omega
    have hb1 : ((l.length : Int) != (m.length : Int)) = false := by simp; omega
    have hb2 : (l.length != m.length) = false := by simp; omega
    clear h h' hlm
    go_enter Tryz.func29, Tryz.ntmps29
    go_wp2
    go_loopw [5] (fun i wr => ∃ k d : Nat, i = .int .i64 k ∧ k ≤ l.length ∧ l.take k = m.take k ∧ wr = w.drewN d) (fun i _ => l.length - (intOf i).toNat)
    case atStart => exact ⟨0, 0, rfl, Nat.zero_le _, rfl, rfl⟩
    case round =>
      obtain ⟨k, d, rfl, hk, htk, rfl⟩ := hrel
      have hbd := Px.below_drewN' (Below.refl w.heap.size w) d
      by_cases hlt : k < l.length
      · have hlt' : k < m.length := by omega
        obtain ⟨b, off, rfl, hbb, c1, c2⟩ := HR.out.at_ hlt
        obtain ⟨b', off', rfl, hbb', c1', c2'⟩ := HR'.out.at_ hlt'
        obtain ⟨r, hr⟩ : ∃ r, l[k] = r := ⟨_, rfl⟩
        obtain ⟨q, hq⟩ : ∃ q, m[k] = q := ⟨_, rfl⟩
        have HS := hid (takeP_same hlt hlt' htk)
        rw [hr] at c1 c2
        rw [hq] at c1' c2'
        rw [hr, hq] at HS
        have HK := Lib.hid htk
        clear htk
        by_cases he : r = q
        · subst he
          have HN := Lib.hid (HS.out rfl)
          clear HS hr hq
          obtain ⟨s, t⟩ := r
          dsimp only at c1 c2 c1' c2'
          go_wp2_with fail
          go_quiet (fail)
          go_wp2
          go_roundw
          case rel => exact ⟨_, d + nq, (show Value.int .i64 _ = Value.int .i64 ((_ + 1 : Nat) : Int) by go_num), by omega, HN.out, rfl⟩
          case measure => simp [intOf]; omega
        · have hne : l ≠ m := fun e => he (by subst e; rw [← hr, ← hq])
          have HE := Lib.hid hne
          obtain ⟨s, t⟩ := r
          obtain ⟨s', t'⟩ := q
          dsimp only at c1 c2 c1' c2'
          clear HS hr hq hne
          by_cases hs : s = s'
          · subst hs
            have ht : (t.toList == t'.toList) = false := by
              rw [str_eq, decide_eq_false_iff_not]
              exact fun e => he (by rw [tl_inj e])
            clear he
            go_wp2_with fail
            go_quiet (fail)
            go_wp2
            go_ret
            exact ⟨ret_b (by rw [decide_eq_false HE.out]), Px.below_drewN' hbd _⟩
          · have ht : (s.toList == s'.toList) = false := by
              rw [str_eq, decide_eq_false_iff_not]
              exact fun e => hs (tl_inj e)
            clear he hs
            go_wp2_with fail
            go_quiet (fail)
            go_wp2
            go_ret
            exact ⟨ret_b (by rw [decide_eq_false HE.out]), Px.below_drewN' hbd _⟩
      · obtain rfl : k = l.length := by omega
        have he : l = m := by
          rw [List.take_length, List.take_of_length_le (by omega)] at htk
          exact htk
        have HE := Lib.hid he
        clear htk hlt he
        go_wp2
        go_ret
        exact ⟨ret_b (by rw [decide_eq_true HE.out]), hbd⟩
  · have hne : l ≠ m := fun e => hlm (by rw [e])
    have HE := Lib.hid hne
    have hb1 : ((l.length : Int) != (m.length : Int)) = true := by simp; omega
    have hb2 : (l.length != m.length) = true := by simp; omega
    clear h h' hne
    go_enter Tryz.func29, Tryz.ntmps29
    go_wp2
    go_ret
    exact ⟨ret_b (by rw [decide_eq_false HE.out]), Below.refl _ _⟩

set_option maxRecDepth 100000 in
set_option maxHeartbeats 1000000 in
theorem sameP_any (A : Option Addr) (c : Nat) (l : List (Int × Int)) (A' : Option Addr) (c' : Nat) (m : List (Int × Int)) (hl : l.length ≤ 9223372036854775807) (hm : m.length ≤ 9223372036854775807) (B : Nat) (w : World) (h : Sp.RdP w B A l.length l) (h' : Sp.RdP w B A' m.length m) :
    Calls Tryz.prog 28 #[.slice A l.length c, .slice A' m.length c'] w fun e w' => e = .returned (.bool (decide (l = m))) ∧ Below w.heap.size w w' := by
  by_cases hlm : l.length = m.length
  · have HR := Lib.hid h
    have HR' := Lib.hid h'
    have hle1 : l.length ≤ m.length := by omega
    have hle2 : m.length ≤ l.length := by omega
    have hb1 : ((l.length : Int) != (m.length : Int)) = false := by simp; omega
    have hb2 : (l.length != m.length) = false := by simp; omega
    clear h h' hlm
    go_enter Tryz.func28, Tryz.ntmps28
    go_wp2
    go_loopw [5] (fun i wr => ∃ k d : Nat, i = .int .i64 k ∧ k ≤ l.length ∧ l.take k = m.take k ∧ wr = w.drewN d) (fun i _ => l.length - (intOf i).toNat)
    case atStart => exact ⟨0, 0, rfl, Nat.zero_le _, rfl, rfl⟩
    case round =>
      obtain ⟨k, d, rfl, hk, htk, rfl⟩ := hrel
      have hbd := Px.below_drewN' (Below.refl w.heap.size w) d
      by_cases hlt : k < l.length
      · have hlt' : k < m.length := by omega
        obtain ⟨b, off, r, rfl, hbb, hr, c1, c2⟩ := HR.out.at_ hlt
        obtain ⟨b', off', q, rfl, hbb', hq, c1', c2'⟩ := HR'.out.at_ hlt'
        rw [List.getElem?_eq_getElem hlt, Option.some.injEq] at hr
        rw [List.getElem?_eq_getElem hlt', Option.some.injEq] at hq
        have HS := hid (takeP_same hlt hlt' htk)
        rw [hr, hq] at HS
        have HK := Lib.hid htk
        clear htk
        by_cases he : r = q
        · subst he
          have HN := Lib.hid (HS.out rfl)
          clear HS hr hq
          obtain ⟨s, t⟩ := r
          dsimp only at c1 c2 c1' c2'
          go_wp2_with fail
          go_quiet (fail)
          go_wp2
          go_roundw
          case rel => exact ⟨_, d + nq, (show Value.int .i64 _ = Value.int .i64 ((_ + 1 : Nat) : Int) by go_num), by omega, HN.out, rfl⟩
          case measure => simp [intOf]; omega
        · have hne : l ≠ m := fun e => he (by subst e; rw [← hr, ← hq])
          have HE := Lib.hid hne
          obtain ⟨s, t⟩ := r
          obtain ⟨s', t'⟩ := q
          dsimp only at c1 c2 c1' c2'
          clear HS hr hq hne
          by_cases hs : s = s'
          · subst hs
            have ht : (t == t') = false := by
              rw [beq_eq_false_iff_ne]
              exact fun e => he (by rw [e])
            clear he
            go_wp2_with fail
            go_quiet (fail)
            go_wp2
            go_ret
            exact ⟨ret_b (by rw [decide_eq_false HE.out]), Px.below_drewN' hbd _⟩
          · have ht : (s == s') = false := by
              rw [beq_eq_false_iff_ne]
              exact hs
            clear he hs
            go_wp2_with fail
            go_quiet (fail)
            go_wp2
            go_ret
            exact ⟨ret_b (by rw [decide_eq_false HE.out]), Px.below_drewN' hbd _⟩
      · obtain rfl : k = l.length := by omega
        have he : l = m := by
          rw [List.take_length, List.take_of_length_le (by omega)] at htk
          exact htk
        have HE := Lib.hid he
        clear htk hlt he
        go_wp2
        go_ret
        exact ⟨ret_b (by rw [decide_eq_true HE.out]), hbd⟩
  · have hne : l ≠ m := fun e => hlm (by rw [e])
    have HE := Lib.hid hne
    have hb1 : ((l.length : Int) != (m.length : Int)) = true := by simp; omega
    have hb2 : (l.length != m.length) = true := by simp; omega
    clear h h' hne
    go_enter Tryz.func28, Tryz.ntmps28
    go_wp2
    go_ret
    exact ⟨ret_b (by rw [decide_eq_false HE.out]), Below.refl _ _⟩

end Go.Proofs.YtbhpedhdhgjkoaaGreatDoor

/-! Are two that are known the same? -/
namespace Go.Proofs.YtbhpedhdhgjkoaaGreatDoor
open Go.RowKit Go.Lib
open Px (R2 tl)
attribute [local go_sem ↓] add_plain
section
variable {P : Program} {ops : Array Oper} {Q : Exit → Act → World → Prop} {a : Act} {w : World} {rest : List Oper} {o : Oper}
theorem wl_yes (d : Nat) {v : Value} (hd : o.dst = some d) (hw : Region.wanted o (yielded ops a.tmps) = true) (hv : (execOp a.eval o).run P w = .ok (.value v) w) (h : wpList P ops Q rest (a.put (some d) v) w) : wpList P ops Q (o :: rest) a w := by
  unfold wpList
  rw [if_pos hw]
  left
  unfold Oper.wp
  rw [hv]
  show wpList P ops Q rest (a.put o.dst v) w
  rw [hd]; exact h
theorem wl_if (d : Nat) (g : Bool) {v : Value} (hd : o.dst = some d) (hw : Region.wanted o (yielded ops a.tmps) = g) (hv : g = true → (execOp a.eval o).run P w = .ok (.value v) w) (h : wpList P ops Q rest (a.put (some d) (bif g then v else undef)) w) : wpList P ops Q (o :: rest) a w := by
  cases g with
  | true => exact wl_yes d hd hw (hv rfl) h
  | false =>
    unfold wpList
    rw [if_neg (by rw [hw]; decide), hd]
    exact h
theorem wl_call (d : Nat) {v : Value} {f : FuncId} {args : Array Value} {C : World → Prop} (hd : o.dst = some d) (hw : Region.wanted o (yielded ops a.tmps) = true) (hx : (execOp a.eval o).run P w = .ok (.enter f args) w)
    (hc : Calls P f args w (fun e w' => e = .returned v ∧ C w')) (h : ∀ w', C w' → wpList P ops Q rest (a.put (some d) v) w') : wpList P ops Q (o :: rest) a w := by
  unfold wpList
  rw [if_pos hw]
  left
  unfold Oper.wp
  rw [hx]
  refine hc.mono ?_
  rintro e w' ⟨rfl, hC⟩
  show wpList P ops Q rest (a.put o.dst v) w'
  rw [hd]; exact h w' hC
end

/-- The rows behind one that is known. -/
structure SIn (w : World) (m : M.Met) (pv ev : Value) : Prop where
  parts : ∃ A c, pv = .slice A m.parts.length c ∧ Sp.RdP w w.heap.size A m.parts.length m.parts
  extra : ∃ A c, ev = .slice A m.extra.length c ∧ Px.RdR w w.heap.size A m.extra
  nparts : m.parts.length ≤ 9223372036854775807
  nextra : m.extra.length ≤ 9223372036854775807
theorem SIn.later {w w' : World} {m : M.Met} {pv ev : Value} (h : SIn w m pv ev) (hb : Below w.heap.size w w') : SIn w' m pv ev := by
  obtain ⟨⟨A, c, h1, h2⟩, ⟨A', c', h3, h4⟩, h5, h6⟩ := h
  exact ⟨⟨A, c, h1, (h2.below hb).more hb.size⟩, ⟨A', c', h3, (h4.below hb).more hb.size⟩, h5, h6⟩
namespace M
noncomputable def sameM (a b : Met) : Bool := @decide (a = b) (Classical.propDecidable _)
theorem sameM_self (a : Met) : sameM a a = true := by unfold sameM; exact @decide_eq_true _ (Classical.propDecidable _) rfl
end M
theorem sameM_eq (a b : M.Met) : M.sameM a b = ((a.name.toList == b.name.toList) && ((a.link.toList == b.link.toList) && ((a.kind == b.kind) && ((a.mode == b.mode) && ((a.uid == b.uid) && ((a.gid == b.gid) && ((a.user.toList == b.user.toList) && ((a.group.toList == b.group.toList) && ((a.sec == b.sec) && ((a.nan == b.nan) && ((a.major == b.major) && ((a.minor == b.minor) && ((a.size == b.size) && ((a.real == b.real) && ((a.holes == b.holes) && (decide (a.parts = b.parts) && (decide (a.extra = b.extra)))))))))))))))))) := by
  rw [Bool.eq_iff_iff]
  unfold M.sameM
  rw [@decide_eq_true_eq _ (Classical.propDecidable _)]
  simp only [Bool.and_eq_true, str_eq, decide_eq_true_eq, beq_iff_eq]
  constructor
  · rintro rfl
    simp
  · rintro ⟨h0, h1, h2, h3, h4, h5, h6, h7, h8, h9, h10, h11, h12, h13, h14, h15, h16⟩
    obtain ⟨x0, x1, x2, x3, x4, x5, x6, x7, x8, x9, x10, x11, x12, x13, x14, x15, x16⟩ := a
    obtain ⟨y0, y1, y2, y3, y4, y5, y6, y7, y8, y9, y10, y11, y12, y13, y14, y15, y16⟩ := b
    simp only at *
    have e0 := tl_inj h0
    have e1 := tl_inj h1
    have e6 := tl_inj h6
    have e7 := tl_inj h7
    subst e0 e1 h2 h3 h4 h5 e6 e7 h8 h9 h10 h11 h12 h13 h14 h15 h16
    rfl

set_option maxRecDepth 100000 in
set_option maxHeartbeats 8000000 in
theorem refSame_any (a b : M.Met) (Pa Pb Ea Eb : Option Addr) (pa pb ea eb : Nat) (w : World) (ha : SIn w a (.slice Pa a.parts.length pa) (.slice Ea a.extra.length ea)) (hb : SIn w b (.slice Pb b.parts.length pb) (.slice Eb b.extra.length eb)) :
    Calls Tryz.prog 9 #[.agg (mcells a (.slice Pa a.parts.length pa) (.slice Ea a.extra.length ea)), .agg (mcells b (.slice Pb b.parts.length pb) (.slice Eb b.extra.length eb))] w fun e w' => e = .returned (.bool (M.sameM a b)) ∧ Below w.heap.size w w' := by
  have rows : ∀ {m : M.Met} {P E : Option Addr} {p e : Nat}, SIn w m (.slice P m.parts.length p) (.slice E m.extra.length e) → Sp.RdP w w.heap.size P m.parts.length m.parts ∧ Px.RdR w w.heap.size E m.extra := by
    intro m P E p e h
    obtain ⟨A, c, e1, h1⟩ := h.parts
    obtain ⟨A2, c2, e2, h2⟩ := h.extra
    injection e1 with e1
    injection e2 with e2
    rw [e1, e2]
    exact ⟨h1, h2⟩
  have hra := rows ha
  have hrb := rows hb
  have HP := hid (fun W (hW : Below w.heap.size w W) => sameP_any Pa pa a.parts Pb pb b.parts ha.nparts hb.nparts w.heap.size W (hra.1.below hW) (hrb.1.below hW))
  have HE := hid (fun W (hW : Below w.heap.size w W) => sameR_any Ea ea a.extra Eb eb b.extra ha.nextra hb.nextra w.heap.size W (hra.2.below hW) (hrb.2.below hW))
  clear rows hra hrb ha hb
  have B1 := MB.alloc (MB.new w a (.slice Pa a.parts.length pa) (.slice Ea a.extra.length ea)) (.cells (mcells b (.slice Pb b.parts.length pb) (.slice Eb b.extra.length eb)) 28)
  have B2 := MB.new (w.alloc (.cells (mcells a (.slice Pa a.parts.length pa) (.slice Ea a.extra.length ea)) 28)) b (.slice Pb b.parts.length pb) (.slice Eb b.extra.length eb)
  rw [World.size_alloc] at B2
  have HW := hid (((Below.refl w.heap.size w).alloc (Nat.le_refl _) (.cells (mcells a (.slice Pa a.parts.length pa) (.slice Ea a.extra.length ea)) 28)).alloc (by simp) (.cells (mcells b (.slice Pb b.parts.length pb) (.slice Eb b.extra.length eb)) 28))
  have HS := hid (sameM_eq a b)
  obtain ⟨b0, t0⟩ : ∃ c, (a.name.toList == b.name.toList) = c := ⟨_, rfl⟩
  obtain ⟨b1, t1⟩ : ∃ c, (a.link.toList == b.link.toList) = c := ⟨_, rfl⟩
  obtain ⟨b2, t2⟩ : ∃ c, (a.kind == b.kind) = c := ⟨_, rfl⟩
  obtain ⟨b3, t3⟩ : ∃ c, (a.mode == b.mode) = c := ⟨_, rfl⟩
  obtain ⟨b4, t4⟩ : ∃ c, (a.uid == b.uid) = c := ⟨_, rfl⟩
  obtain ⟨b5, t5⟩ : ∃ c, (a.gid == b.gid) = c := ⟨_, rfl⟩
  obtain ⟨b6, t6⟩ : ∃ c, (a.user.toList == b.user.toList) = c := ⟨_, rfl⟩
  obtain ⟨b7, t7⟩ : ∃ c, (a.group.toList == b.group.toList) = c := ⟨_, rfl⟩
  obtain ⟨b8, t8⟩ : ∃ c, (a.sec == b.sec) = c := ⟨_, rfl⟩
  obtain ⟨b9, t9⟩ : ∃ c, (a.nan == b.nan) = c := ⟨_, rfl⟩
  obtain ⟨b10, t10⟩ : ∃ c, (a.major == b.major) = c := ⟨_, rfl⟩
  obtain ⟨b11, t11⟩ : ∃ c, (a.minor == b.minor) = c := ⟨_, rfl⟩
  obtain ⟨b12, t12⟩ : ∃ c, (a.size == b.size) = c := ⟨_, rfl⟩
  obtain ⟨b13, t13⟩ : ∃ c, (a.real == b.real) = c := ⟨_, rfl⟩
  obtain ⟨b14, t14⟩ : ∃ c, (a.holes == b.holes) = c := ⟨_, rfl⟩
  obtain ⟨b15, t15⟩ : ∃ c, decide (a.parts = b.parts) = c := ⟨_, rfl⟩
  obtain ⟨b16, t16⟩ : ∃ c, decide (a.extra = b.extra) = c := ⟨_, rfl⟩
  rw [t0, t1, t2, t3, t4, t5, t6, t7, t8, t9, t10, t11, t12, t13, t14, t15, t16] at HS
  rw [t15] at HP
  rw [t16] at HE
  have T0 := hid t0
  have T1 := hid t1
  have T2 := hid t2
  have T3 := hid t3
  have T4 := hid t4
  have T5 := hid t5
  have T6 := hid t6
  have T7 := hid t7
  have T8 := hid t8
  have T9 := hid t9
  have T10 := hid t10
  have T11 := hid t11
  have T12 := hid t12
  have T13 := hid t13
  have T14 := hid t14
  clear t0 t1 t2 t3 t4 t5 t6 t7 t8 t9 t10 t11 t12 t13 t14 t15 t16
  have A1 := hid B1
  have B1 := hid B2
  clear B2
  go_enter Tryz.func9, Tryz.ntmps9
  go_upto_region 1 with fail
  generalize World.alloc (World.alloc w _) _ = W at *
  obtain ⟨g1, hg1⟩ : ∃ g, g = (b0 && b1) := ⟨_, rfl⟩
  have G1 := hid hg1
  clear hg1
  obtain ⟨g2, hg2⟩ : ∃ g, g = (g1 && b2) := ⟨_, rfl⟩
  have G2 := hid hg2
  clear hg2
  obtain ⟨g3, hg3⟩ : ∃ g, g = (g2 && b3) := ⟨_, rfl⟩
  have G3 := hid hg3
  clear hg3
  obtain ⟨g4, hg4⟩ : ∃ g, g = (g3 && b4) := ⟨_, rfl⟩
  have G4 := hid hg4
  clear hg4
  obtain ⟨g5, hg5⟩ : ∃ g, g = (g4 && b5) := ⟨_, rfl⟩
  have G5 := hid hg5
  clear hg5
  obtain ⟨g6, hg6⟩ : ∃ g, g = (g5 && b6) := ⟨_, rfl⟩
  have G6 := hid hg6
  clear hg6
  obtain ⟨g7, hg7⟩ : ∃ g, g = (g6 && b7) := ⟨_, rfl⟩
  have G7 := hid hg7
  clear hg7
  obtain ⟨g8, hg8⟩ : ∃ g, g = (g7 && (b8 && b9)) := ⟨_, rfl⟩
  have G8 := hid hg8
  clear hg8
  obtain ⟨g9, hg9⟩ : ∃ g, g = (g8 && b10) := ⟨_, rfl⟩
  have G9 := hid hg9
  clear hg9
  obtain ⟨g10, hg10⟩ : ∃ g, g = (g9 && b11) := ⟨_, rfl⟩
  have G10 := hid hg10
  clear hg10
  obtain ⟨g11, hg11⟩ : ∃ g, g = (g10 && b12) := ⟨_, rfl⟩
  have G11 := hid hg11
  clear hg11
  obtain ⟨g12, hg12⟩ : ∃ g, g = (g11 && b13) := ⟨_, rfl⟩
  have G12 := hid hg12
  clear hg12
  obtain ⟨g13, hg13⟩ : ∃ g, g = (g12 && b14) := ⟨_, rfl⟩
  have G13 := hid hg13
  clear hg13
  have HT : Hid (M.sameM a b = (g13 && (b15 && b16))) := hid (by rw [HS.out, G13.out, G12.out, G11.out, G10.out, G9.out, G8.out, G7.out, G6.out, G5.out, G4.out, G3.out, G2.out, G1.out]; simp only [Bool.and_assoc])
  clear HS
  refine wp_region_lit ?_
  refine wl_yes 6 (v := ?_) rfl (by kernel_rfl) ?hy6 ?rest6
  case hy6 => (go_simp; first | done | with_reducible rfl)
  try simp only [Act.put, List.setIfInBounds_toArray, List.set_cons_zero, List.set_cons_succ]
  refine wl_yes 7 (v := ?_) rfl (by kernel_rfl) ?hy7 ?rest7
  case hy7 => (have z0 := A1.out.cell (i := 0) (v := .string a.name) rfl; go_simp; first | done | with_reducible rfl)
  try simp only [Act.put, List.setIfInBounds_toArray, List.set_cons_zero, List.set_cons_succ]
  refine wl_yes 8 (v := ?_) rfl (by kernel_rfl) ?hy8 ?rest8
  case hy8 => (go_simp; first | done | with_reducible rfl)
  try simp only [Act.put, List.setIfInBounds_toArray, List.set_cons_zero, List.set_cons_succ]
  refine wl_yes 9 (v := ?_) rfl (by kernel_rfl) ?hy9 ?rest9
  case hy9 => (have z0 := B1.out.cell (i := 0) (v := .string b.name) rfl; go_simp; first | done | with_reducible rfl)
  try simp only [Act.put, List.setIfInBounds_toArray, List.set_cons_zero, List.set_cons_succ]
  refine wl_yes 10 (v := .bool b0) rfl (by kernel_rfl) ?hy10 ?rest10
  case hy10 => (rw [← T0.out]; go_simp; first | done | with_reducible rfl)
  try simp only [Act.put, List.setIfInBounds_toArray, List.set_cons_zero, List.set_cons_succ]
  refine wl_yes 11 (v := ?_) rfl (by kernel_rfl) ?hy11 ?rest11
  case hy11 => (go_simp; first | done | with_reducible rfl)
  try simp only [Act.put, List.setIfInBounds_toArray, List.set_cons_zero, List.set_cons_succ]
  refine wl_if 12 b0 (v := ?_) rfl (by cases b0 <;> kernel_rfl) ?hy12 ?rest12
  case hy12 => (intro hg; subst hg; (try simp only [cond_true]); go_simp; first | done | with_reducible rfl)
  try simp only [Act.put, List.setIfInBounds_toArray, List.set_cons_zero, List.set_cons_succ]
  refine wl_if 13 b0 (v := ?_) rfl (by cases b0 <;> kernel_rfl) ?hy13 ?rest13
  case hy13 => (intro hg; subst hg; (try simp only [cond_true]); have z1 := A1.out.cell (i := 1) (v := .string a.link) rfl; go_simp; first | done | with_reducible rfl)
  try simp only [Act.put, List.setIfInBounds_toArray, List.set_cons_zero, List.set_cons_succ]
  refine wl_if 14 b0 (v := ?_) rfl (by cases b0 <;> kernel_rfl) ?hy14 ?rest14
  case hy14 => (intro hg; subst hg; (try simp only [cond_true]); go_simp; first | done | with_reducible rfl)
  try simp only [Act.put, List.setIfInBounds_toArray, List.set_cons_zero, List.set_cons_succ]
  refine wl_if 15 b0 (v := ?_) rfl (by cases b0 <;> kernel_rfl) ?hy15 ?rest15
  case hy15 => (intro hg; subst hg; (try simp only [cond_true]); have z1 := B1.out.cell (i := 1) (v := .string b.link) rfl; go_simp; first | done | with_reducible rfl)
  try simp only [Act.put, List.setIfInBounds_toArray, List.set_cons_zero, List.set_cons_succ]
  refine wl_if 16 b0 (v := .bool b1) rfl (by cases b0 <;> kernel_rfl) ?hy16 ?rest16
  case hy16 => (intro hg; subst hg; (try simp only [cond_true]); rw [← T1.out]; go_simp; first | done | with_reducible rfl)
  try simp only [Act.put, List.setIfInBounds_toArray, List.set_cons_zero, List.set_cons_succ]
  refine wl_yes 17 (v := .bool g1) rfl (by kernel_rfl) ?hy17 ?rest17
  case hy17 => (rw [G1.out]; cases b0 <;> (go_simp; first | done | with_reducible rfl))
  try simp only [Act.put, List.setIfInBounds_toArray, List.set_cons_zero, List.set_cons_succ]
  refine wl_yes 18 (v := ?_) rfl (by kernel_rfl) ?hy18 ?rest18
  case hy18 => (go_simp; first | done | with_reducible rfl)
  try simp only [Act.put, List.setIfInBounds_toArray, List.set_cons_zero, List.set_cons_succ]
  refine wl_if 19 g1 (v := ?_) rfl (by cases g1 <;> kernel_rfl) ?hy19 ?rest19
  case hy19 => (intro hg; subst hg; (try simp only [cond_true]); go_simp; first | done | with_reducible rfl)
  try simp only [Act.put, List.setIfInBounds_toArray, List.set_cons_zero, List.set_cons_succ]
  refine wl_if 20 g1 (v := ?_) rfl (by cases g1 <;> kernel_rfl) ?hy20 ?rest20
  case hy20 => (intro hg; subst hg; (try simp only [cond_true]); have z2 := A1.out.cell (i := 2) (v := .int .u8 a.kind) rfl; go_simp; first | done | with_reducible rfl)
  try simp only [Act.put, List.setIfInBounds_toArray, List.set_cons_zero, List.set_cons_succ]
  refine wl_if 21 g1 (v := ?_) rfl (by cases g1 <;> kernel_rfl) ?hy21 ?rest21
  case hy21 => (intro hg; subst hg; (try simp only [cond_true]); go_simp; first | done | with_reducible rfl)
  try simp only [Act.put, List.setIfInBounds_toArray, List.set_cons_zero, List.set_cons_succ]
  refine wl_if 22 g1 (v := ?_) rfl (by cases g1 <;> kernel_rfl) ?hy22 ?rest22
  case hy22 => (intro hg; subst hg; (try simp only [cond_true]); have z2 := B1.out.cell (i := 2) (v := .int .u8 b.kind) rfl; go_simp; first | done | with_reducible rfl)
  try simp only [Act.put, List.setIfInBounds_toArray, List.set_cons_zero, List.set_cons_succ]
  refine wl_if 23 g1 (v := .bool b2) rfl (by cases g1 <;> kernel_rfl) ?hy23 ?rest23
  case hy23 => (intro hg; subst hg; (try simp only [cond_true]); rw [← T2.out]; go_simp; first | done | with_reducible rfl)
  try simp only [Act.put, List.setIfInBounds_toArray, List.set_cons_zero, List.set_cons_succ]
  refine wl_yes 24 (v := .bool g2) rfl (by kernel_rfl) ?hy24 ?rest24
  case hy24 => (rw [G2.out]; cases g1 <;> (go_simp; first | done | with_reducible rfl))
  try simp only [Act.put, List.setIfInBounds_toArray, List.set_cons_zero, List.set_cons_succ]
  refine wl_yes 25 (v := ?_) rfl (by kernel_rfl) ?hy25 ?rest25
  case hy25 => (go_simp; first | done | with_reducible rfl)
  try simp only [Act.put, List.setIfInBounds_toArray, List.set_cons_zero, List.set_cons_succ]
  refine wl_if 26 g2 (v := ?_) rfl (by cases g2 <;> kernel_rfl) ?hy26 ?rest26
  case hy26 => (intro hg; subst hg; (try simp only [cond_true]); go_simp; first | done | with_reducible rfl)
  try simp only [Act.put, List.setIfInBounds_toArray, List.set_cons_zero, List.set_cons_succ]
  refine wl_if 27 g2 (v := ?_) rfl (by cases g2 <;> kernel_rfl) ?hy27 ?rest27
  case hy27 => (intro hg; subst hg; (try simp only [cond_true]); have z3 := A1.out.cell (i := 3) (v := .int .i64 a.mode) rfl; go_simp; first | done | with_reducible rfl)
  try simp only [Act.put, List.setIfInBounds_toArray, List.set_cons_zero, List.set_cons_succ]
  refine wl_if 28 g2 (v := ?_) rfl (by cases g2 <;> kernel_rfl) ?hy28 ?rest28
  case hy28 => (intro hg; subst hg; (try simp only [cond_true]); go_simp; first | done | with_reducible rfl)
  try simp only [Act.put, List.setIfInBounds_toArray, List.set_cons_zero, List.set_cons_succ]
  refine wl_if 29 g2 (v := ?_) rfl (by cases g2 <;> kernel_rfl) ?hy29 ?rest29
  case hy29 => (intro hg; subst hg; (try simp only [cond_true]); have z3 := B1.out.cell (i := 3) (v := .int .i64 b.mode) rfl; go_simp; first | done | with_reducible rfl)
  try simp only [Act.put, List.setIfInBounds_toArray, List.set_cons_zero, List.set_cons_succ]
  refine wl_if 30 g2 (v := .bool b3) rfl (by cases g2 <;> kernel_rfl) ?hy30 ?rest30
  case hy30 => (intro hg; subst hg; (try simp only [cond_true]); rw [← T3.out]; go_simp; first | done | with_reducible rfl)
  try simp only [Act.put, List.setIfInBounds_toArray, List.set_cons_zero, List.set_cons_succ]
  refine wl_yes 31 (v := .bool g3) rfl (by kernel_rfl) ?hy31 ?rest31
  case hy31 => (rw [G3.out]; cases g2 <;> (go_simp; first | done | with_reducible rfl))
  try simp only [Act.put, List.setIfInBounds_toArray, List.set_cons_zero, List.set_cons_succ]
  refine wl_yes 32 (v := ?_) rfl (by kernel_rfl) ?hy32 ?rest32
  case hy32 => (go_simp; first | done | with_reducible rfl)
  try simp only [Act.put, List.setIfInBounds_toArray, List.set_cons_zero, List.set_cons_succ]
  refine wl_if 33 g3 (v := ?_) rfl (by cases g3 <;> kernel_rfl) ?hy33 ?rest33
  case hy33 => (intro hg; subst hg; (try simp only [cond_true]); go_simp; first | done | with_reducible rfl)
  try simp only [Act.put, List.setIfInBounds_toArray, List.set_cons_zero, List.set_cons_succ]
  refine wl_if 34 g3 (v := ?_) rfl (by cases g3 <;> kernel_rfl) ?hy34 ?rest34
  case hy34 => (intro hg; subst hg; (try simp only [cond_true]); have z4 := A1.out.cell (i := 4) (v := .int .i64 a.uid) rfl; go_simp; first | done | with_reducible rfl)
  try simp only [Act.put, List.setIfInBounds_toArray, List.set_cons_zero, List.set_cons_succ]
  refine wl_if 35 g3 (v := ?_) rfl (by cases g3 <;> kernel_rfl) ?hy35 ?rest35
  case hy35 => (intro hg; subst hg; (try simp only [cond_true]); go_simp; first | done | with_reducible rfl)
  try simp only [Act.put, List.setIfInBounds_toArray, List.set_cons_zero, List.set_cons_succ]
  refine wl_if 36 g3 (v := ?_) rfl (by cases g3 <;> kernel_rfl) ?hy36 ?rest36
  case hy36 => (intro hg; subst hg; (try simp only [cond_true]); have z4 := B1.out.cell (i := 4) (v := .int .i64 b.uid) rfl; go_simp; first | done | with_reducible rfl)
  try simp only [Act.put, List.setIfInBounds_toArray, List.set_cons_zero, List.set_cons_succ]
  refine wl_if 37 g3 (v := .bool b4) rfl (by cases g3 <;> kernel_rfl) ?hy37 ?rest37
  case hy37 => (intro hg; subst hg; (try simp only [cond_true]); rw [← T4.out]; go_simp; first | done | with_reducible rfl)
  try simp only [Act.put, List.setIfInBounds_toArray, List.set_cons_zero, List.set_cons_succ]
  refine wl_yes 38 (v := .bool g4) rfl (by kernel_rfl) ?hy38 ?rest38
  case hy38 => (rw [G4.out]; cases g3 <;> (go_simp; first | done | with_reducible rfl))
  try simp only [Act.put, List.setIfInBounds_toArray, List.set_cons_zero, List.set_cons_succ]
  refine wl_yes 39 (v := ?_) rfl (by kernel_rfl) ?hy39 ?rest39
  case hy39 => (go_simp; first | done | with_reducible rfl)
  try simp only [Act.put, List.setIfInBounds_toArray, List.set_cons_zero, List.set_cons_succ]
  refine wl_if 40 g4 (v := ?_) rfl (by cases g4 <;> kernel_rfl) ?hy40 ?rest40
  case hy40 => (intro hg; subst hg; (try simp only [cond_true]); go_simp; first | done | with_reducible rfl)
  try simp only [Act.put, List.setIfInBounds_toArray, List.set_cons_zero, List.set_cons_succ]
  refine wl_if 41 g4 (v := ?_) rfl (by cases g4 <;> kernel_rfl) ?hy41 ?rest41
  case hy41 => (intro hg; subst hg; (try simp only [cond_true]); have z5 := A1.out.cell (i := 5) (v := .int .i64 a.gid) rfl; go_simp; first | done | with_reducible rfl)
  try simp only [Act.put, List.setIfInBounds_toArray, List.set_cons_zero, List.set_cons_succ]
  refine wl_if 42 g4 (v := ?_) rfl (by cases g4 <;> kernel_rfl) ?hy42 ?rest42
  case hy42 => (intro hg; subst hg; (try simp only [cond_true]); go_simp; first | done | with_reducible rfl)
  try simp only [Act.put, List.setIfInBounds_toArray, List.set_cons_zero, List.set_cons_succ]
  refine wl_if 43 g4 (v := ?_) rfl (by cases g4 <;> kernel_rfl) ?hy43 ?rest43
  case hy43 => (intro hg; subst hg; (try simp only [cond_true]); have z5 := B1.out.cell (i := 5) (v := .int .i64 b.gid) rfl; go_simp; first | done | with_reducible rfl)
  try simp only [Act.put, List.setIfInBounds_toArray, List.set_cons_zero, List.set_cons_succ]
  refine wl_if 44 g4 (v := .bool b5) rfl (by cases g4 <;> kernel_rfl) ?hy44 ?rest44
  case hy44 => (intro hg; subst hg; (try simp only [cond_true]); rw [← T5.out]; go_simp; first | done | with_reducible rfl)
  try simp only [Act.put, List.setIfInBounds_toArray, List.set_cons_zero, List.set_cons_succ]
  refine wl_yes 45 (v := .bool g5) rfl (by kernel_rfl) ?hy45 ?rest45
  case hy45 => (rw [G5.out]; cases g4 <;> (go_simp; first | done | with_reducible rfl))
  try simp only [Act.put, List.setIfInBounds_toArray, List.set_cons_zero, List.set_cons_succ]
  refine wl_yes 46 (v := ?_) rfl (by kernel_rfl) ?hy46 ?rest46
  case hy46 => (go_simp; first | done | with_reducible rfl)
  try simp only [Act.put, List.setIfInBounds_toArray, List.set_cons_zero, List.set_cons_succ]
  refine wl_if 47 g5 (v := ?_) rfl (by cases g5 <;> kernel_rfl) ?hy47 ?rest47
  case hy47 => (intro hg; subst hg; (try simp only [cond_true]); go_simp; first | done | with_reducible rfl)
  try simp only [Act.put, List.setIfInBounds_toArray, List.set_cons_zero, List.set_cons_succ]
  refine wl_if 48 g5 (v := ?_) rfl (by cases g5 <;> kernel_rfl) ?hy48 ?rest48
  case hy48 => (intro hg; subst hg; (try simp only [cond_true]); have z6 := A1.out.cell (i := 6) (v := .string a.user) rfl; go_simp; first | done | with_reducible rfl)
  try simp only [Act.put, List.setIfInBounds_toArray, List.set_cons_zero, List.set_cons_succ]
  refine wl_if 49 g5 (v := ?_) rfl (by cases g5 <;> kernel_rfl) ?hy49 ?rest49
  case hy49 => (intro hg; subst hg; (try simp only [cond_true]); go_simp; first | done | with_reducible rfl)
  try simp only [Act.put, List.setIfInBounds_toArray, List.set_cons_zero, List.set_cons_succ]
  refine wl_if 50 g5 (v := ?_) rfl (by cases g5 <;> kernel_rfl) ?hy50 ?rest50
  case hy50 => (intro hg; subst hg; (try simp only [cond_true]); have z6 := B1.out.cell (i := 6) (v := .string b.user) rfl; go_simp; first | done | with_reducible rfl)
  try simp only [Act.put, List.setIfInBounds_toArray, List.set_cons_zero, List.set_cons_succ]
  refine wl_if 51 g5 (v := .bool b6) rfl (by cases g5 <;> kernel_rfl) ?hy51 ?rest51
  case hy51 => (intro hg; subst hg; (try simp only [cond_true]); rw [← T6.out]; go_simp; first | done | with_reducible rfl)
  try simp only [Act.put, List.setIfInBounds_toArray, List.set_cons_zero, List.set_cons_succ]
  refine wl_yes 52 (v := .bool g6) rfl (by kernel_rfl) ?hy52 ?rest52
  case hy52 => (rw [G6.out]; cases g5 <;> (go_simp; first | done | with_reducible rfl))
  try simp only [Act.put, List.setIfInBounds_toArray, List.set_cons_zero, List.set_cons_succ]
  refine wl_yes 53 (v := ?_) rfl (by kernel_rfl) ?hy53 ?rest53
  case hy53 => (go_simp; first | done | with_reducible rfl)
  try simp only [Act.put, List.setIfInBounds_toArray, List.set_cons_zero, List.set_cons_succ]
  refine wl_if 54 g6 (v := ?_) rfl (by cases g6 <;> kernel_rfl) ?hy54 ?rest54
  case hy54 => (intro hg; subst hg; (try simp only [cond_true]); go_simp; first | done | with_reducible rfl)
  try simp only [Act.put, List.setIfInBounds_toArray, List.set_cons_zero, List.set_cons_succ]
  refine wl_if 55 g6 (v := ?_) rfl (by cases g6 <;> kernel_rfl) ?hy55 ?rest55
  case hy55 => (intro hg; subst hg; (try simp only [cond_true]); have z7 := A1.out.cell (i := 7) (v := .string a.group) rfl; go_simp; first | done | with_reducible rfl)
  try simp only [Act.put, List.setIfInBounds_toArray, List.set_cons_zero, List.set_cons_succ]
  refine wl_if 56 g6 (v := ?_) rfl (by cases g6 <;> kernel_rfl) ?hy56 ?rest56
  case hy56 => (intro hg; subst hg; (try simp only [cond_true]); go_simp; first | done | with_reducible rfl)
  try simp only [Act.put, List.setIfInBounds_toArray, List.set_cons_zero, List.set_cons_succ]
  refine wl_if 57 g6 (v := ?_) rfl (by cases g6 <;> kernel_rfl) ?hy57 ?rest57
  case hy57 => (intro hg; subst hg; (try simp only [cond_true]); have z7 := B1.out.cell (i := 7) (v := .string b.group) rfl; go_simp; first | done | with_reducible rfl)
  try simp only [Act.put, List.setIfInBounds_toArray, List.set_cons_zero, List.set_cons_succ]
  refine wl_if 58 g6 (v := .bool b7) rfl (by cases g6 <;> kernel_rfl) ?hy58 ?rest58
  case hy58 => (intro hg; subst hg; (try simp only [cond_true]); rw [← T7.out]; go_simp; first | done | with_reducible rfl)
  try simp only [Act.put, List.setIfInBounds_toArray, List.set_cons_zero, List.set_cons_succ]
  refine wl_yes 59 (v := .bool g7) rfl (by kernel_rfl) ?hy59 ?rest59
  case hy59 => (rw [G7.out]; cases g6 <;> (go_simp; first | done | with_reducible rfl))
  try simp only [Act.put, List.setIfInBounds_toArray, List.set_cons_zero, List.set_cons_succ]
  refine wl_yes 60 (v := ?_) rfl (by kernel_rfl) ?hy60 ?rest60
  case hy60 => (go_simp; first | done | with_reducible rfl)
  try simp only [Act.put, List.setIfInBounds_toArray, List.set_cons_zero, List.set_cons_succ]
  refine wl_if 61 g7 (v := ?_) rfl (by cases g7 <;> kernel_rfl) ?hy61 ?rest61
  case hy61 => (intro hg; subst hg; (try simp only [cond_true]); go_simp; first | done | with_reducible rfl)
  try simp only [Act.put, List.setIfInBounds_toArray, List.set_cons_zero, List.set_cons_succ]
  refine wl_if 62 g7 (v := ?_) rfl (by cases g7 <;> kernel_rfl) ?hy62 ?rest62
  case hy62 => (intro hg; subst hg; (try simp only [cond_true]); have z8 := A1.out.cell (i := 8) (v := .int .i64 a.sec) rfl; have z9 := A1.out.cell (i := 9) (v := .int .i64 a.nan) rfl; go_simp; first | done | with_reducible rfl)
  try simp only [Act.put, List.setIfInBounds_toArray, List.set_cons_zero, List.set_cons_succ]
  refine wl_if 63 g7 (v := ?_) rfl (by cases g7 <;> kernel_rfl) ?hy63 ?rest63
  case hy63 => (intro hg; subst hg; (try simp only [cond_true]); go_simp; first | done | with_reducible rfl)
  try simp only [Act.put, List.setIfInBounds_toArray, List.set_cons_zero, List.set_cons_succ]
  refine wl_if 64 g7 (v := ?_) rfl (by cases g7 <;> kernel_rfl) ?hy64 ?rest64
  case hy64 => (intro hg; subst hg; (try simp only [cond_true]); have z8 := B1.out.cell (i := 8) (v := .int .i64 b.sec) rfl; have z9 := B1.out.cell (i := 9) (v := .int .i64 b.nan) rfl; go_simp; first | done | with_reducible rfl)
  try simp only [Act.put, List.setIfInBounds_toArray, List.set_cons_zero, List.set_cons_succ]
  refine wl_if 65 g7 (v := .bool (b8 && b9)) rfl (by cases g7 <;> kernel_rfl) ?hy65 ?rest65
  case hy65 => (intro hg; subst hg; (try simp only [cond_true]); rw [← T8.out, ← T9.out]; go_simp; by_cases e1 : a.sec = b.sec <;> by_cases e2 : a.nan = b.nan <;> simp [e1, e2])
  try simp only [Act.put, List.setIfInBounds_toArray, List.set_cons_zero, List.set_cons_succ]
  refine wl_yes 66 (v := .bool g8) rfl (by kernel_rfl) ?hy66 ?rest66
  case hy66 => (rw [G8.out]; cases g7 <;> (go_simp; first | done | with_reducible rfl))
  try simp only [Act.put, List.setIfInBounds_toArray, List.set_cons_zero, List.set_cons_succ]
  refine wl_yes 5 (v := ?_) rfl (by kernel_rfl) ?hy5 ?rest5
  case hy5 => (go_simp; first | done | with_reducible rfl)
  try simp only [Act.put, List.setIfInBounds_toArray, List.set_cons_zero, List.set_cons_succ]
  refine wpList_nil ?_
  go_upto_region 2 with fail
  refine wp_region_lit ?_
  refine wl_yes 67 (v := ?_) rfl (by kernel_rfl) ?hy67 ?rest67
  case hy67 => (go_simp; first | done | with_reducible rfl)
  try simp only [Act.put, List.setIfInBounds_toArray, List.set_cons_zero, List.set_cons_succ]
  refine wl_yes 68 (v := ?_) rfl (by kernel_rfl) ?hy68 ?rest68
  case hy68 => (go_simp; first | done | with_reducible rfl)
  try simp only [Act.put, List.setIfInBounds_toArray, List.set_cons_zero, List.set_cons_succ]
  refine wl_if 69 g8 (v := ?_) rfl (by cases g8 <;> kernel_rfl) ?hy69 ?rest69
  case hy69 => (intro hg; subst hg; (try simp only [cond_true]); go_simp; first | done | with_reducible rfl)
  try simp only [Act.put, List.setIfInBounds_toArray, List.set_cons_zero, List.set_cons_succ]
  refine wl_if 70 g8 (v := ?_) rfl (by cases g8 <;> kernel_rfl) ?hy70 ?rest70
  case hy70 => (intro hg; subst hg; (try simp only [cond_true]); have z10 := A1.out.cell (i := 10) (v := .int .i64 a.major) rfl; go_simp; first | done | with_reducible rfl)
  try simp only [Act.put, List.setIfInBounds_toArray, List.set_cons_zero, List.set_cons_succ]
  refine wl_if 71 g8 (v := ?_) rfl (by cases g8 <;> kernel_rfl) ?hy71 ?rest71
  case hy71 => (intro hg; subst hg; (try simp only [cond_true]); go_simp; first | done | with_reducible rfl)
  try simp only [Act.put, List.setIfInBounds_toArray, List.set_cons_zero, List.set_cons_succ]
  refine wl_if 72 g8 (v := ?_) rfl (by cases g8 <;> kernel_rfl) ?hy72 ?rest72
  case hy72 => (intro hg; subst hg; (try simp only [cond_true]); have z10 := B1.out.cell (i := 10) (v := .int .i64 b.major) rfl; go_simp; first | done | with_reducible rfl)
  try simp only [Act.put, List.setIfInBounds_toArray, List.set_cons_zero, List.set_cons_succ]
  refine wl_if 73 g8 (v := .bool b10) rfl (by cases g8 <;> kernel_rfl) ?hy73 ?rest73
  case hy73 => (intro hg; subst hg; (try simp only [cond_true]); rw [← T10.out]; go_simp; first | done | with_reducible rfl)
  try simp only [Act.put, List.setIfInBounds_toArray, List.set_cons_zero, List.set_cons_succ]
  refine wl_yes 74 (v := .bool g9) rfl (by kernel_rfl) ?hy74 ?rest74
  case hy74 => (rw [G9.out]; cases g8 <;> (go_simp; first | done | with_reducible rfl))
  try simp only [Act.put, List.setIfInBounds_toArray, List.set_cons_zero, List.set_cons_succ]
  refine wl_yes 75 (v := ?_) rfl (by kernel_rfl) ?hy75 ?rest75
  case hy75 => (go_simp; first | done | with_reducible rfl)
  try simp only [Act.put, List.setIfInBounds_toArray, List.set_cons_zero, List.set_cons_succ]
  refine wl_if 76 g9 (v := ?_) rfl (by cases g9 <;> kernel_rfl) ?hy76 ?rest76
  case hy76 => (intro hg; subst hg; (try simp only [cond_true]); go_simp; first | done | with_reducible rfl)
  try simp only [Act.put, List.setIfInBounds_toArray, List.set_cons_zero, List.set_cons_succ]
  refine wl_if 77 g9 (v := ?_) rfl (by cases g9 <;> kernel_rfl) ?hy77 ?rest77
  case hy77 => (intro hg; subst hg; (try simp only [cond_true]); have z11 := A1.out.cell (i := 11) (v := .int .i64 a.minor) rfl; go_simp; first | done | with_reducible rfl)
  try simp only [Act.put, List.setIfInBounds_toArray, List.set_cons_zero, List.set_cons_succ]
  refine wl_if 78 g9 (v := ?_) rfl (by cases g9 <;> kernel_rfl) ?hy78 ?rest78
  case hy78 => (intro hg; subst hg; (try simp only [cond_true]); go_simp; first | done | with_reducible rfl)
  try simp only [Act.put, List.setIfInBounds_toArray, List.set_cons_zero, List.set_cons_succ]
  refine wl_if 79 g9 (v := ?_) rfl (by cases g9 <;> kernel_rfl) ?hy79 ?rest79
  case hy79 => (intro hg; subst hg; (try simp only [cond_true]); have z11 := B1.out.cell (i := 11) (v := .int .i64 b.minor) rfl; go_simp; first | done | with_reducible rfl)
  try simp only [Act.put, List.setIfInBounds_toArray, List.set_cons_zero, List.set_cons_succ]
  refine wl_if 80 g9 (v := .bool b11) rfl (by cases g9 <;> kernel_rfl) ?hy80 ?rest80
  case hy80 => (intro hg; subst hg; (try simp only [cond_true]); rw [← T11.out]; go_simp; first | done | with_reducible rfl)
  try simp only [Act.put, List.setIfInBounds_toArray, List.set_cons_zero, List.set_cons_succ]
  refine wl_yes 81 (v := .bool g10) rfl (by kernel_rfl) ?hy81 ?rest81
  case hy81 => (rw [G10.out]; cases g9 <;> (go_simp; first | done | with_reducible rfl))
  try simp only [Act.put, List.setIfInBounds_toArray, List.set_cons_zero, List.set_cons_succ]
  refine wl_yes 82 (v := ?_) rfl (by kernel_rfl) ?hy82 ?rest82
  case hy82 => (go_simp; first | done | with_reducible rfl)
  try simp only [Act.put, List.setIfInBounds_toArray, List.set_cons_zero, List.set_cons_succ]
  refine wl_if 83 g10 (v := ?_) rfl (by cases g10 <;> kernel_rfl) ?hy83 ?rest83
  case hy83 => (intro hg; subst hg; (try simp only [cond_true]); go_simp; first | done | with_reducible rfl)
  try simp only [Act.put, List.setIfInBounds_toArray, List.set_cons_zero, List.set_cons_succ]
  refine wl_if 84 g10 (v := ?_) rfl (by cases g10 <;> kernel_rfl) ?hy84 ?rest84
  case hy84 => (intro hg; subst hg; (try simp only [cond_true]); have z12 := A1.out.cell (i := 12) (v := .int .i64 a.size) rfl; go_simp; first | done | with_reducible rfl)
  try simp only [Act.put, List.setIfInBounds_toArray, List.set_cons_zero, List.set_cons_succ]
  refine wl_if 85 g10 (v := ?_) rfl (by cases g10 <;> kernel_rfl) ?hy85 ?rest85
  case hy85 => (intro hg; subst hg; (try simp only [cond_true]); go_simp; first | done | with_reducible rfl)
  try simp only [Act.put, List.setIfInBounds_toArray, List.set_cons_zero, List.set_cons_succ]
  refine wl_if 86 g10 (v := ?_) rfl (by cases g10 <;> kernel_rfl) ?hy86 ?rest86
  case hy86 => (intro hg; subst hg; (try simp only [cond_true]); have z12 := B1.out.cell (i := 12) (v := .int .i64 b.size) rfl; go_simp; first | done | with_reducible rfl)
  try simp only [Act.put, List.setIfInBounds_toArray, List.set_cons_zero, List.set_cons_succ]
  refine wl_if 87 g10 (v := .bool b12) rfl (by cases g10 <;> kernel_rfl) ?hy87 ?rest87
  case hy87 => (intro hg; subst hg; (try simp only [cond_true]); rw [← T12.out]; go_simp; first | done | with_reducible rfl)
  try simp only [Act.put, List.setIfInBounds_toArray, List.set_cons_zero, List.set_cons_succ]
  refine wl_yes 88 (v := .bool g11) rfl (by kernel_rfl) ?hy88 ?rest88
  case hy88 => (rw [G11.out]; cases g10 <;> (go_simp; first | done | with_reducible rfl))
  try simp only [Act.put, List.setIfInBounds_toArray, List.set_cons_zero, List.set_cons_succ]
  refine wl_yes 89 (v := ?_) rfl (by kernel_rfl) ?hy89 ?rest89
  case hy89 => (go_simp; first | done | with_reducible rfl)
  try simp only [Act.put, List.setIfInBounds_toArray, List.set_cons_zero, List.set_cons_succ]
  refine wl_if 90 g11 (v := ?_) rfl (by cases g11 <;> kernel_rfl) ?hy90 ?rest90
  case hy90 => (intro hg; subst hg; (try simp only [cond_true]); go_simp; first | done | with_reducible rfl)
  try simp only [Act.put, List.setIfInBounds_toArray, List.set_cons_zero, List.set_cons_succ]
  refine wl_if 91 g11 (v := ?_) rfl (by cases g11 <;> kernel_rfl) ?hy91 ?rest91
  case hy91 => (intro hg; subst hg; (try simp only [cond_true]); have z13 := A1.out.cell (i := 13) (v := .int .i64 a.real) rfl; go_simp; first | done | with_reducible rfl)
  try simp only [Act.put, List.setIfInBounds_toArray, List.set_cons_zero, List.set_cons_succ]
  refine wl_if 92 g11 (v := ?_) rfl (by cases g11 <;> kernel_rfl) ?hy92 ?rest92
  case hy92 => (intro hg; subst hg; (try simp only [cond_true]); go_simp; first | done | with_reducible rfl)
  try simp only [Act.put, List.setIfInBounds_toArray, List.set_cons_zero, List.set_cons_succ]
  refine wl_if 93 g11 (v := ?_) rfl (by cases g11 <;> kernel_rfl) ?hy93 ?rest93
  case hy93 => (intro hg; subst hg; (try simp only [cond_true]); have z13 := B1.out.cell (i := 13) (v := .int .i64 b.real) rfl; go_simp; first | done | with_reducible rfl)
  try simp only [Act.put, List.setIfInBounds_toArray, List.set_cons_zero, List.set_cons_succ]
  refine wl_if 94 g11 (v := .bool b13) rfl (by cases g11 <;> kernel_rfl) ?hy94 ?rest94
  case hy94 => (intro hg; subst hg; (try simp only [cond_true]); rw [← T13.out]; go_simp; first | done | with_reducible rfl)
  try simp only [Act.put, List.setIfInBounds_toArray, List.set_cons_zero, List.set_cons_succ]
  refine wl_yes 95 (v := .bool g12) rfl (by kernel_rfl) ?hy95 ?rest95
  case hy95 => (rw [G12.out]; cases g11 <;> (go_simp; first | done | with_reducible rfl))
  try simp only [Act.put, List.setIfInBounds_toArray, List.set_cons_zero, List.set_cons_succ]
  refine wl_yes 96 (v := ?_) rfl (by kernel_rfl) ?hy96 ?rest96
  case hy96 => (go_simp; first | done | with_reducible rfl)
  try simp only [Act.put, List.setIfInBounds_toArray, List.set_cons_zero, List.set_cons_succ]
  refine wl_if 97 g12 (v := ?_) rfl (by cases g12 <;> kernel_rfl) ?hy97 ?rest97
  case hy97 => (intro hg; subst hg; (try simp only [cond_true]); go_simp; first | done | with_reducible rfl)
  try simp only [Act.put, List.setIfInBounds_toArray, List.set_cons_zero, List.set_cons_succ]
  refine wl_if 98 g12 (v := ?_) rfl (by cases g12 <;> kernel_rfl) ?hy98 ?rest98
  case hy98 => (intro hg; subst hg; (try simp only [cond_true]); have z14 := A1.out.cell (i := 14) (v := .bool a.holes) rfl; go_simp; first | done | with_reducible rfl)
  try simp only [Act.put, List.setIfInBounds_toArray, List.set_cons_zero, List.set_cons_succ]
  refine wl_if 99 g12 (v := ?_) rfl (by cases g12 <;> kernel_rfl) ?hy99 ?rest99
  case hy99 => (intro hg; subst hg; (try simp only [cond_true]); go_simp; first | done | with_reducible rfl)
  try simp only [Act.put, List.setIfInBounds_toArray, List.set_cons_zero, List.set_cons_succ]
  refine wl_if 100 g12 (v := ?_) rfl (by cases g12 <;> kernel_rfl) ?hy100 ?rest100
  case hy100 => (intro hg; subst hg; (try simp only [cond_true]); have z14 := B1.out.cell (i := 14) (v := .bool b.holes) rfl; go_simp; first | done | with_reducible rfl)
  try simp only [Act.put, List.setIfInBounds_toArray, List.set_cons_zero, List.set_cons_succ]
  refine wl_if 101 g12 (v := .bool b14) rfl (by cases g12 <;> kernel_rfl) ?hy101 ?rest101
  case hy101 => (intro hg; subst hg; (try simp only [cond_true]); rw [← T14.out]; go_simp; first | done | with_reducible rfl)
  try simp only [Act.put, List.setIfInBounds_toArray, List.set_cons_zero, List.set_cons_succ]
  refine wl_yes 102 (v := .bool g13) rfl (by kernel_rfl) ?hy102 ?rest102
  case hy102 => (rw [G13.out]; cases g12 <;> (go_simp; first | done | with_reducible rfl))
  try simp only [Act.put, List.setIfInBounds_toArray, List.set_cons_zero, List.set_cons_succ]
  refine wl_yes 103 (v := ?_) rfl (by kernel_rfl) ?hy103 ?rest103
  case hy103 => (go_simp; first | done | with_reducible rfl)
  try simp only [Act.put, List.setIfInBounds_toArray, List.set_cons_zero, List.set_cons_succ]
  refine wl_if 104 g13 (v := ?_) rfl (by cases g13 <;> kernel_rfl) ?hy104 ?rest104
  case hy104 => (intro hg; subst hg; (try simp only [cond_true]); go_simp; first | done | with_reducible rfl)
  try simp only [Act.put, List.setIfInBounds_toArray, List.set_cons_zero, List.set_cons_succ]
  refine wl_if 105 g13 (v := ?_) rfl (by cases g13 <;> kernel_rfl) ?hy105 ?rest105
  case hy105 => (intro hg; subst hg; (try simp only [cond_true]); have z15 := A1.out.cell (i := 15) (v := .slice Pa a.parts.length pa) rfl; go_simp; first | done | with_reducible rfl)
  try simp only [Act.put, List.setIfInBounds_toArray, List.set_cons_zero, List.set_cons_succ]
  refine wl_if 106 g13 (v := ?_) rfl (by cases g13 <;> kernel_rfl) ?hy106 ?rest106
  case hy106 => (intro hg; subst hg; (try simp only [cond_true]); go_simp; first | done | with_reducible rfl)
  try simp only [Act.put, List.setIfInBounds_toArray, List.set_cons_zero, List.set_cons_succ]
  refine wl_if 107 g13 (v := ?_) rfl (by cases g13 <;> kernel_rfl) ?hy107 ?rest107
  case hy107 => (intro hg; subst hg; (try simp only [cond_true]); have z15 := B1.out.cell (i := 15) (v := .slice Pb b.parts.length pb) rfl; go_simp; first | done | with_reducible rfl)
  try simp only [Act.put, List.setIfInBounds_toArray, List.set_cons_zero, List.set_cons_succ]
  cases g13 with
  | false =>
    refine wl_if 108 false (v := undef) rfl (by kernel_rfl) (fun h => by cases h) ?rest108
    try simp only [Act.put, List.setIfInBounds_toArray, List.set_cons_zero, List.set_cons_succ]
    refine wl_yes 109 (v := .bool false) rfl (by kernel_rfl) ?hy109 ?rest109
    case hy109 => (go_simp; first | done | with_reducible rfl)
    try simp only [Act.put, List.setIfInBounds_toArray, List.set_cons_zero, List.set_cons_succ]
    refine wl_yes 110 (v := ?_) rfl (by kernel_rfl) ?hy110 ?rest110
    case hy110 => (go_simp; first | done | with_reducible rfl)
    try simp only [Act.put, List.setIfInBounds_toArray, List.set_cons_zero, List.set_cons_succ]
    refine wl_if 111 false (v := undef) rfl (by kernel_rfl) (fun h => by cases h) ?rest111
    try simp only [Act.put, List.setIfInBounds_toArray, List.set_cons_zero, List.set_cons_succ]
    refine wl_if 112 false (v := undef) rfl (by kernel_rfl) (fun h => by cases h) ?rest112
    try simp only [Act.put, List.setIfInBounds_toArray, List.set_cons_zero, List.set_cons_succ]
    refine wl_if 113 false (v := undef) rfl (by kernel_rfl) (fun h => by cases h) ?rest113
    try simp only [Act.put, List.setIfInBounds_toArray, List.set_cons_zero, List.set_cons_succ]
    refine wl_if 114 false (v := undef) rfl (by kernel_rfl) (fun h => by cases h) ?rest114
    try simp only [Act.put, List.setIfInBounds_toArray, List.set_cons_zero, List.set_cons_succ]
    refine wl_if 115 false (v := undef) rfl (by kernel_rfl) (fun h => by cases h) ?rest115
    try simp only [Act.put, List.setIfInBounds_toArray, List.set_cons_zero, List.set_cons_succ]
    refine wl_yes 116 (v := .bool false) rfl (by kernel_rfl) ?hy116 ?rest116
    case hy116 => (go_simp; first | done | with_reducible rfl)
    try simp only [Act.put, List.setIfInBounds_toArray, List.set_cons_zero, List.set_cons_succ]
    refine wl_yes 4 (v := ?_) rfl (by kernel_rfl) ?hy4 ?rest4
    case hy4 => (go_simp; first | done | with_reducible rfl)
    try simp only [Act.put, List.setIfInBounds_toArray, List.set_cons_zero, List.set_cons_succ]
    refine wpList_nil ?_
    go_wp2_with fail
    go_ret
    exact ⟨by rw [HT.out]; rfl, HW.out⟩
  | true =>
    have HP2 := hid (HP.out _ HW.out)
    refine wl_call 108 (v := .bool b15) rfl (by kernel_rfl) (by go_simp; first | done | with_reducible rfl) HP2.out ?_
    intro w5 hb5
    try simp only [Act.put, List.setIfInBounds_toArray, List.set_cons_zero, List.set_cons_succ]
    have HW5 := hid (HW.out.trans (hb5.mono HW.out.size))
    have A5 := hid (A1.out.below hb5 A1.out.lt)
    have B5 := hid (B1.out.below hb5 B1.out.lt)
    clear hb5 HP2
    refine wl_yes 109 (v := .bool b15) rfl (by kernel_rfl) ?hyT109 ?restT109
    case hyT109 => (cases b15 <;> (go_simp; first | done | with_reducible rfl))
    try simp only [Act.put, List.setIfInBounds_toArray, List.set_cons_zero, List.set_cons_succ]
    refine wl_yes 110 (v := ?_) rfl (by kernel_rfl) ?hyT110 ?restT110
    case hyT110 => (go_simp; first | done | with_reducible rfl)
    try simp only [Act.put, List.setIfInBounds_toArray, List.set_cons_zero, List.set_cons_succ]
    refine wl_if 111 b15 (v := ?_) rfl (by cases b15 <;> kernel_rfl) ?hyT111 ?restT111
    case hyT111 => (intro hg; subst hg; (try simp only [cond_true]); go_simp; first | done | with_reducible rfl)
    try simp only [Act.put, List.setIfInBounds_toArray, List.set_cons_zero, List.set_cons_succ]
    refine wl_if 112 b15 (v := ?_) rfl (by cases b15 <;> kernel_rfl) ?hyT112 ?restT112
    case hyT112 => (intro hg; subst hg; (try simp only [cond_true]); have z16 := A5.out.cell (i := 16) (v := .slice Ea a.extra.length ea) rfl; go_simp; first | done | with_reducible rfl)
    try simp only [Act.put, List.setIfInBounds_toArray, List.set_cons_zero, List.set_cons_succ]
    refine wl_if 113 b15 (v := ?_) rfl (by cases b15 <;> kernel_rfl) ?hyT113 ?restT113
    case hyT113 => (intro hg; subst hg; (try simp only [cond_true]); go_simp; first | done | with_reducible rfl)
    try simp only [Act.put, List.setIfInBounds_toArray, List.set_cons_zero, List.set_cons_succ]
    refine wl_if 114 b15 (v := ?_) rfl (by cases b15 <;> kernel_rfl) ?hyT114 ?restT114
    case hyT114 => (intro hg; subst hg; (try simp only [cond_true]); have z16 := B5.out.cell (i := 16) (v := .slice Eb b.extra.length eb) rfl; go_simp; first | done | with_reducible rfl)
    try simp only [Act.put, List.setIfInBounds_toArray, List.set_cons_zero, List.set_cons_succ]
    cases b15 with
    | false =>
      refine wl_if 115 false (v := undef) rfl (by kernel_rfl) (fun h => by cases h) ?restV115
      try simp only [Act.put, List.setIfInBounds_toArray, List.set_cons_zero, List.set_cons_succ]
      refine wl_yes 116 (v := .bool false) rfl (by kernel_rfl) ?hyV116 ?restV116
      case hyV116 => (go_simp; first | done | with_reducible rfl)
      try simp only [Act.put, List.setIfInBounds_toArray, List.set_cons_zero, List.set_cons_succ]
      refine wl_yes 4 (v := ?_) rfl (by kernel_rfl) ?hyV4 ?restV4
      case hyV4 => (go_simp; first | done | with_reducible rfl)
      try simp only [Act.put, List.setIfInBounds_toArray, List.set_cons_zero, List.set_cons_succ]
      refine wpList_nil ?_
      go_wp2_with fail
      go_ret
      exact ⟨by rw [HT.out]; rfl, HW5.out⟩
    | true =>
      have HE2 := hid (HE.out _ HW5.out)
      refine wl_call 115 (v := .bool b16) rfl (by kernel_rfl) (by go_simp; first | done | with_reducible rfl) HE2.out ?_
      intro w6 hb6
      try simp only [Act.put, List.setIfInBounds_toArray, List.set_cons_zero, List.set_cons_succ]
      have HW6 := hid (HW5.out.trans (hb6.mono HW5.out.size))
      refine wl_yes 116 (v := .bool b16) rfl (by kernel_rfl) ?hyU116 ?restU116
      case hyU116 => (cases b16 <;> (go_simp; first | done | with_reducible rfl))
      try simp only [Act.put, List.setIfInBounds_toArray, List.set_cons_zero, List.set_cons_succ]
      refine wl_yes 4 (v := ?_) rfl (by kernel_rfl) ?hyU4 ?restU4
      case hyU4 => (go_simp; first | done | with_reducible rfl)
      try simp only [Act.put, List.setIfInBounds_toArray, List.set_cons_zero, List.set_cons_succ]
      refine wpList_nil ?_
      go_wp2_with fail
      go_ret
      exact ⟨by rw [HT.out]; rfl, HW6.out⟩
end Go.Proofs.YtbhpedhdhgjkoaaGreatDoor

/-! Split of any text, and Same of any two, are what the chapter says. -/
namespace Go.Proofs.YtbhpedhdhgjkoaaGreatDoor
open Go.RowKit Go.Lib
open Px (R2 tl)
attribute [local go_sem ↓] add_plain
end Go.Proofs.YtbhpedhdhgjkoaaGreatDoor

/-! Whatever a header, and records, tell may be told again: the statement's walk. -/
namespace Go.Proofs.YtbhpedhdhgjkoaaGreatDoor
open Go.RowKit Go.Lib
open Px (R2 tl)

/-- The same header, out of the words of its own chapter. -/
def um (h : Hd.M.Hdr) : M.Hdr :=
  { name := h.name, mode := h.mode, uid := h.uid, gid := h.gid, size := h.size, mtime := h.mtime, kind := h.kind, link := h.link, way := h.way, user := h.user, group := h.group, major := h.major, minor := h.minor,
    pre := h.pre, parts := h.parts, more := h.more, real := h.real }
theorem um_cells (h : Hd.M.Hdr) (pv : Value) : Hd.hcells h pv = hcells (um h) pv := rfl
theorem rdP_of {w : World} {B : Nat} {pv : Value} {l : List (Int × Int)} (h : Hd.PartsB w B pv l) : ∃ A c, pv = .slice A l.length c ∧ Sp.RdP w B A l.length l := by
  obtain ⟨A, c, rfl, _, h2⟩ := h
  refine ⟨A, c, rfl, rfl, fun hl => ?_⟩
  obtain ⟨b, off, e, hb, hc⟩ := h2 hl
  exact ⟨b, off, e, hb, fun j p hj => by have := hc j p hj; rw [Nat.mul_comm j 2]; exact this⟩
theorem fin_header {w : World} {h : Hd.M.Hdr} {pv : Value} {l : List R2} {A : Option Addr} (hi : Hd.HIn w h pv) (hf : h.parts.length ≤ 1000) (hr : Px.RdR w w.heap.size A l) (h1 : l.length ≤ 12) (h3 : ∀ r ∈ l, r.1.size ≤ 100 ∧ r.2.size ≤ 100) :
    FIn w (um h) pv l [] [] [] A none none none where
  rparts := rdP_of hi.parts
  rrecs := hr
  rnames := fun hn => absurd hn (by simp)
  rlinks := fun hn => absurd hn (by simp)
  rmore := Sp.RdP.none_
  nparts := ⟨by show h.parts.length ≤ 500000; omega, by simp⟩
  nrecs := by omega
  nnames := by simp
  fits := fun r hr => ⟨Nat.le_trans (h3 r hr).1 (by decide), Nat.le_trans (h3 r hr).2 (by decide)⟩
  kind := hi.kind
  pn := by show h.pre.size + h.name.size < 1000000; have := hi.texts; omega
  texts := by show h.link.size ≤ 1000000 ∧ h.user.size ≤ 1000000 ∧ h.group.size ≤ 1000000; have := hi.texts; omega
  tnames := ⟨fun x hx => (by cases hx), fun x hx => (by cases hx)⟩
  ints := ⟨hi.ints.1, hi.ints.2.1, hi.ints.2.2.1, hi.ints.2.2.2.2.2.1, hi.ints.2.2.2.2.2.2.1, hi.ints.2.2.2.1, hi.ints.2.2.2.2.2.2.2⟩
  i64s := ⟨hi.nums, fun p hp => by cases hp⟩
/-- What is told again, a record at a time. -/
structure RecOk (m : M.Met) (l : List R2) (k : Nat) (r : R2) (s : R2) : Prop where
  path : r.1 = M.kPath → 100 < m.name.size
  user : r.1 = M.kUser → 32 < m.user.size
  uid : r.1 = M.kUid → 2097151 < m.uid
  next : 0 < k → Px.ltB (tl s.1) (tl r.1) = true
theorem recOk {m : M.Met} (he : M.toE m = 0) {k : Nat} (hk : k < ((M.toR m).map M.mk).length) {r s : R2} (hr : ((M.toR m).map M.mk)[k] = r) (hs : ((M.toR m).map M.mk)[k - 1]'(by omega) = s) : RecOk m ((M.toR m).map M.mk) k r s := by
  have hR : M.toR m = M.recsOf m := by unfold M.toR; rw [if_pos he]
  have R := M.right_of (M.toE_wrong he)
  have hk' : k < (M.recsOf m).length := by rw [← hR]; rw [List.length_map] at hk; exact hk
  have er : r = M.mk ((M.recsOf m)[k]) := by rw [← hr]; simp [hR]
  have es : s = M.mk ((M.recsOf m)[k - 1]) := by rw [← hs]; simp [hR]
  have hm : (M.recsOf m)[k] ∈ M.recsOf m := List.getElem_mem hk'
  have tr : tl r.1 = ((M.recsOf m)[k]).1 := by rw [er]; rfl
  have ts : tl s.1 = ((M.recsOf m)[k - 1]).1 := by rw [es]; rfl
  refine ⟨fun e => M.rec_path R hm (by rw [← tr, e]), fun e => M.rec_user R hm (by rw [← tr, e]), fun e => M.rec_uid R hm (by rw [← tr, e]), fun h0 => ?_⟩
  have := M.rising_at (M.recs_rising m) (k := k - 1) (by omega)
  rw [tr, ts]
  have e : k - 1 + 1 = k := by omega
  simpa [e] using this
theorem hin_later {w W : World} {h : Hd.M.Hdr} {pv : Value} (hi : Hd.HIn w h pv) (hb : Below w.heap.size w W) : Hd.HIn W h pv :=
  ⟨Hd.PartsB.mono (Hd.PartsB.below hi.parts hb) hb.size, hi.nums, hi.kind, hi.ints, hi.texts⟩
theorem key_of {x : ByteArray} {a : Array UInt8} (h : (x.toList == a.toList) = true) : x = ⟨a⟩ := by
  have h1 : x.toList = a.toList := by simpa using h
  rw [ByteArray.toList_eq] at h1
  cases x with
  | mk d => exact congrArg ByteArray.mk (Array.toList_inj.1 h1)
theorem toR_len {m : M.Met} (he : M.toE m = 0) : (M.toR m).length ≤ 1000 := by
  have hR : M.toR m = M.recsOf m := by unfold M.toR; rw [if_pos he]
  rw [hR]
  refine recs_len ?_
  have h := he
  unfold M.toE at h
  split at h
  · rename_i h1; exact absurd h h1
  · exact h
theorem oneM {W : World} {m : M.Met} {pv ev : Value} (h : MIn W m pv ev) : pv.oneCell' = true ∧ ev.oneCell' = true := by
  obtain ⟨P, p, rfl, _⟩ := h.parts
  obtain ⟨E, c, rfl, _⟩ := h.extra
  exact ⟨rfl, rfl⟩
/-- A load of a row whose guard is wanted. -/
theorem wl_loadW {P : Program} {ops : Array Oper} {rest : List Oper} {o : Oper} {a : Act} {w : World} {Q : Exit → Act → World → Prop} (hw : Region.wanted o (yielded ops a.tmps) = true) (ty : TypeId) (x : Operand) (ho : o.op = .load ty x)
    (g : Nat) (hx : a.eval x = .pointer (some ⟨g, 0, none⟩)) (t : TypeId) (cs : Array Value) (fr : Nat × Nat) (d : TypeDesc) (hg : w.heap[g]? = some (.cells cs t fr))
    (hu : P.underlying ty = some d) (hd : (match d with | .struct _ | .array _ _ => true | _ => false) = true) (hi : (P.info? ty).map (·.size) = some cs.size)
    (h : wpList P ops Q rest (a.put o.dst (.agg cs)) w) : wpList P ops Q (o :: rest) a w := by
  unfold wpList
  rw [if_pos hw]
  left
  exact wp_load_row ty x ho g hx t cs fr d hg hu hd hi h
theorem sinW {w : World} {m : M.Met} {pv ev : Value} (h : MIn w m pv ev) : ∃ P p E c, pv = .slice P m.parts.length p ∧ ev = .slice E m.extra.length c ∧ SIn w m (.slice P m.parts.length p) (.slice E m.extra.length c) := by
  obtain ⟨P, p, rfl, h1⟩ := h.parts
  obtain ⟨E, c, rfl, h2⟩ := h.extra
  exact ⟨P, p, E, c, rfl, rfl, ⟨P, p, rfl, h1⟩, ⟨E, c, rfl, h2⟩, Nat.le_trans h.nparts (by decide), Nat.le_trans h.nextra (by decide)⟩
theorem from_none {h : M.Hdr} {l : List Px.M.Rc} {names links : List ByteArray} {more : List (Int × Int)} (hE : M.fromE h l names links more ≠ 0) : M.fromM h l names links more = {} := by
  unfold M.fromM; rw [if_neg hE]
set_option maxRecDepth 100000 in
set_option maxHeartbeats 8000000 in
theorem metaWhat_any (A0 : Option Addr) (n0 c0 : Nat) (z0 : List Int) (A1 : Option Addr) (n1 c1 : Nat) (z1 : List Int) (B : Nat) (w : World) (hr0 : Sp.Rd w w.heap.size A0 n0 z0) (hc0 : n0 ≤ c0) (hcm0 : c0 ≤ maxLen) (hr1 : Sp.Rd w w.heap.size A1 n1 z1) (hn : n1 ≤ maxLen) (hB : B ≤ w.heap.size) (ht : Sp.EV B w) :
    Calls Tryz.prog 3 #[.slice A0 n0 c0, .slice A1 n1 c1] w fun e w' => e = .returned (.bool true) ∧ Below w.heap.size w w' := by
  have HT := hid (fun (V : World) (hV : Below w.heap.size w V) => And.intro (Nat.le_trans hB hV.size) (ht.on (hV.mono hB)))
  have HL := hid (Hd.header_any A0 n0 c0 z0 w hr0 hc0 hcm0)
  have HR := hid (fun (V : World) (hV : Below w.heap.size w V) => recs_any A1 n1 c1 z1 hn V ((hr1.below hV).more hV.size))
  clear ht hB hr0 hr1 hn hc0 hcm0
  go_enter Tryz.func3, Tryz.ntmps3
  go_wp2_with fail
  (with_reducible refine HL.out.mono ?_)
  rintro e w1 ⟨h, pv, rfl, hi, hf, _, hb1⟩
  rw [um_cells]
  have HI1 := hid hi
  have HB1 := hid hb1
  clear hi hb1 HL
  go_wp2_with fail
  (with_reducible refine (HR.out _ HB1.out).mono ?_)
  rintro e w2 ⟨A, c, rs, rfl, hr2, hc2, hl2, hg2, hb2⟩
  have HB2 := hid (HB1.out.trans (hb2.mono HB1.out.size))
  have HF := hid (from_any (um h) pv rs [] [] [] A none none none c 0 0 0 B w2 (fin_header (hin_later HI1.out hb2) hf hr2 hl2 hg2) (HT.out _ HB2.out).1 (HT.out _ HB2.out).2)
  clear hr2 hc2 hl2 hg2 hb2 HR HB1 HI1 hf
  go_wp2_with fail
  refine HF.out.mono ?_
  rintro e w3 ⟨pv3, ev3, rfl, hm3, hb3⟩
  have HB3 := hid (HB2.out.trans (hb3.mono HB2.out.size))
  have HM := hid (fun (h0 : M.fromE (um h) (Px.rcs rs) [] [] [] = 0) => M.from_toE h0)
  have HN := hid (fun (h0 : ¬ M.fromE (um h) (Px.rcs rs) [] [] [] = 0) => from_none h0)
  clear HF HB2 hb3
  obtain ⟨m, hm⟩ : ∃ m, M.fromM (um h) (Px.rcs rs) [] [] [] = m := ⟨_, rfl⟩
  obtain ⟨E, hE⟩ : ∃ E, M.fromE (um h) (Px.rcs rs) [] [] [] = E := ⟨_, rfl⟩
  rw [hm, hE] at HM HN
  rw [hm] at hm3
  rw [hm, hE]
  clear hm hE
  have HP := hid (oneM hm3)
  have HI3 := hid hm3
  clear hm3
  go_upto_region 2 with (refine wpList_store_row rfl 28 (.tmp 5) (.tmp 19) rfl w3.heap.size (mcells m pv3 ev3) (by simp [Act.eval]) (by simp [Act.eval]) 28 (mcells {} (.slice none 0 0) (.slice none 0 0)) (heap_alloc_new w3 _) met_size rfl (mcells_one _ HP.out.1 HP.out.2) ?_; rw [World.setRow_alloc_new])
  have MB4 := hid (MB.new w3 m pv3 ev3)
  have hb4 := (Below.refl w3.heap.size w3).alloc (Nat.le_refl _) (.cells (mcells m pv3 ev3) 28)
  have HI4 := hid (HI3.out.later hb4)
  have HB4 := hid (HB3.out.trans (hb4.mono HB3.out.size))
  have hs4 : w3.heap.size < (World.alloc w3 (.cells (mcells m pv3 ev3) 28)).heap.size := by rw [World.size_alloc]; exact Nat.lt_succ_self _
  clear HI3 HB3 hb4 HP
  generalize World.alloc w3 _ = w4 at *
  generalize w3.heap.size = g1 at *
  by_cases hE0 : E = 0
  case neg =>
    have d1 : ((E : Int) != 0) = true := by rw [bne_iff_ne]; omega
    obtain rfl := HN.out hE0
    have HC := hid (fun (V : World) (hV : Below w4.heap.size w4 V) => (MB4.out.below hV hs4).cell (i := 0) (v := .string ⟨#[]⟩) rfl)
    clear hE0 HM HN
    go_wp2_with fail
    refine (known_any B w4 (HT.out _ HB4.out).1 (HT.out _ HB4.out).2).mono ?_
    rintro e w5 ⟨rfl, hb5⟩
    have HB5 := hid (HB4.out.trans (hb5.mono HB4.out.size))
    have x0 := HC.out _ hb5
    clear hb5
    go_wp2
    go_ret
    exact ⟨rfl, HB5.out⟩
  subst hE0
  have HE := hid (HM.out rfl)
  clear HM HN
  go_wp2_with (refine wpList_load_row rfl 28 (.tmp 5) rfl g1 (by rfl) 28 (mcells m pv3 ev3) (0, 0) _ MB4.out Tryz.underlying28 rfl met_size ?_)
  (with_reducible refine (to_any m pv3 ev3 B w4 HI4.out (HT.out w4 HB4.out).1 (HT.out w4 HB4.out).2).mono ?_)
  rintro e w5 ⟨A5, c5, rfl, hr5, hc5, hb5⟩
  rw [HE.out]
  have MB5 := hid (MB4.out.below hb5 hs4)
  have HI5 := hid (HI4.out.later hb5)
  have HB5 := hid (HB4.out.trans (hb5.mono HB4.out.size))
  have hs5 : g1 < w5.heap.size := Nat.lt_of_lt_of_le hs4 hb5.size
  have HR5 := hid hr5
  clear MB4 HI4 HB4 hs4 hr5 hc5 hb5
  go_upto_region 5 with (refine wpList_store_row rfl 34 (.tmp 7) (.tmp 32) rfl w5.heap.size (hcells (M.toH m) (.slice none 0 0)) (by simp [Act.eval]) (by simp [Act.eval]) 34 (hcells {} (.slice none 0 0)) (heap_alloc_new w5 _) hdr_size rfl (hcells_one _ rfl) ?_; rw [World.setRow_alloc_new])
  have hb6 := (Below.refl w5.heap.size w5).alloc (Nat.le_refl _) (.cells (hcells (M.toH m) (.slice none 0 0)) 34)
  have HH6 := hid (HB.new w5 (M.toH m) (.slice none 0 0))
  have hs6 : w5.heap.size < (World.alloc w5 (.cells (hcells (M.toH m) (.slice none 0 0)) 34)).heap.size := by rw [World.size_alloc]; exact Nat.lt_succ_self _
  have MB6 := hid (MB5.out.below hb6 hs5)
  have HI6 := hid (HI5.out.later hb6)
  have HR6 := hid ((HR5.out.below hb6).more hb6.size)
  have HB6 := hid (HB5.out.trans (hb6.mono HB5.out.size))
  clear MB5 HI5 HR5 HB5 hb6
  generalize World.alloc w5 _ = w6 at *
  generalize w5.heap.size = g3 at *
  have HF := hid (from_any (M.toH m) (.slice none 0 0) ((M.toR m).map M.mk) [] [] [] A5 none none none c5 0 0 0 B w6 (fin_to HI6.out.fits HR6.out) (HT.out w6 HB6.out).1 (HT.out w6 HB6.out).2)
  unfold FromIs at HF
  rw [List.length_map, rcs_mk, (M.from_to HE.out).1, (M.from_to HE.out).2] at HF
  go_wp2_with (refine wpList_load_row rfl 34 (.tmp 7) rfl g3 (by rfl) 34 (hcells (M.toH m) (.slice none 0 0)) (0, 0) _ HH6.out Tryz.underlying34 rfl hdr_size ?_)
  refine HF.out.mono ?_
  rintro e w7 ⟨pv7, ev7, rfl, hI7, hb7⟩
  have hs6g : g1 < w6.heap.size := Nat.lt_trans hs5 hs6
  have MB7 := hid (MB6.out.below hb7 hs6g)
  have HI7 := hid (HI6.out.later hb7)
  have HJ7 := hid hI7
  have HP7 := hid (oneM hI7)
  have HR7 := hid ((HR6.out.below hb7).more hb7.size)
  have HB7 := hid (HB6.out.trans (hb7.mono HB6.out.size))
  have hs7 : g1 < w7.heap.size := Nat.lt_of_lt_of_le hs6g hb7.size
  clear HF MB6 HH6 HI6 hI7 HR6 HB6 hs6g hs6 hs5 hb7
  go_upto_region 6 with (refine wpList_store_row rfl 28 (.tmp 10) (.tmp 39) rfl w7.heap.size (mcells m pv7 ev7) (by simp [Act.eval]) (by simp [Act.eval]) 28 (mcells {} (.slice none 0 0) (.slice none 0 0)) (heap_alloc_new w7 _) met_size rfl (mcells_one _ HP7.out.1 HP7.out.2) ?_; rw [World.setRow_alloc_new])
  have hb8 := (Below.refl w7.heap.size w7).alloc (Nat.le_refl _) (.cells (mcells m pv7 ev7) 28)
  have NB8 := hid (MB.new w7 m pv7 ev7)
  have MB8 := hid (MB7.out.below hb8 hs7)
  have HI8 := hid (HI7.out.later hb8)
  have HJ8 := hid (HJ7.out.later hb8)
  have HR8 := hid ((HR7.out.below hb8).more hb8.size)
  have HB8 := hid (HB7.out.trans (hb8.mono HB7.out.size))
  have hs8 : g1 < (World.alloc w7 (.cells (mcells m pv7 ev7) 28)).heap.size := by rw [World.size_alloc]; exact Nat.lt_succ_of_lt hs7
  clear MB7 HI7 HJ7 HR7 HB7 hb8 hs7
  generalize World.alloc w7 _ = w8 at *
  generalize w7.heap.size = g5 at *
  go_wp2_with (first
    | (refine wl_loadW (by kernel_rfl) 28 (.tmp 5) rfl g1 (by rfl) 28 (mcells m pv3 ev3) (0, 0) _ MB8.out Tryz.underlying28 rfl met_size ?_)
    | (refine wl_loadW (by kernel_rfl) 28 (.tmp 10) rfl g5 (by rfl) 28 (mcells m pv7 ev7) (0, 0) _ NB8.out Tryz.underlying28 rfl met_size ?_))
  have hS1 := sinW HI8.out
  have hS2 := sinW HJ8.out
  clear NB8 HI8 HJ8 HP7
  obtain ⟨P1, p1, E1, q1, rfl, rfl, S1⟩ := hS1
  obtain ⟨P2, p2, E2, q2, rfl, rfl, S2⟩ := hS2
  (with_reducible refine (refSame_any m m P1 P2 E1 E2 p1 p2 q1 q2 w8 S1 S2).mono ?_)
  rintro e w9 ⟨rfl, hb9⟩
  rw [M.sameM_self]
  have MB9 := hid (MB8.out.below hb9 hs8)
  have HR9 := hid ((HR8.out.below hb9).more hb9.size)
  have HB9 := hid (HB8.out.trans (hb9.mono HB8.out.size))
  have hs9 : g1 < w9.heap.size := Nat.lt_of_lt_of_le hs8 hb9.size
  clear S1 S2 hb9 HB8 MB8 HR8 hs8
  obtain ⟨rr, hrr⟩ : ∃ rr, (M.toR m).map M.mk = rr := ⟨_, rfl⟩
  have hln : (M.toR m).length = rr.length := by rw [← hrr, List.length_map]
  have HOK := hid (fun (k : Nat) (r s : R2) (hk : k < rr.length) (hr : rr[k] = r) (hs : rr[k - 1]'(by omega) = s) => show RecOk m rr k r s from by subst hrr; exact recOk HE.out hk hr hs)
  rw [hrr] at HR9
  rw [hln]
  have HN9 := hid (show rr.length ≤ 1000000 from by rw [← hrr, List.length_map]; have := toR_len HE.out; omega)
  clear hrr hln HE
  have hnx := HN9.out
  go_wp2_with fail
  go_loopw [12] (fun iv wr => ∃ k : Nat, iv = .int .i64 k ∧ k ≤ rr.length ∧ Hid (Below w9.heap.size w9 wr)) (fun iv _ => rr.length - (intOf iv).toNat)
  case atStart => exact ⟨0, rfl, Nat.zero_le _, hid (Below.refl _ _)⟩
  case round =>
    obtain ⟨k, rfl, hk, HW⟩ := hrel
    by_cases hlt : k < rr.length
    · obtain ⟨b, off, rfl, hbb, c1, c2⟩ := HR9.out.at_ hlt
      have HM0 := hid (fun (V : World) (hV : Below w9.heap.size w9 V) => (MB9.out.below hV hs9).cell (i := 0) (v := .string m.name) rfl)
      have HM6 := hid (fun (V : World) (hV : Below w9.heap.size w9 V) => (MB9.out.below hV hs9).cell (i := 6) (v := .string m.user) rfl)
      have HM4 := hid (fun (V : World) (hV : Below w9.heap.size w9 V) => (MB9.out.below hV hs9).cell (i := 4) (v := .int .i64 m.uid) rfl)
      obtain ⟨r, hr⟩ : ∃ r, rr[k] = r := ⟨_, rfl⟩
      rw [hr] at c1
      have H1 := hid (fun (V : World) (hV : Below w9.heap.size w9 V) => (hV.cell (p := ⟨b, off + k * 2, none⟩) hbb).trans c1)
      obtain ⟨q, hq⟩ : ∃ q, q = k - 1 := ⟨_, rfl⟩
      have hql : q < rr.length := by omega
      obtain ⟨s, hs⟩ : ∃ s, rr[q] = s := ⟨_, rfl⟩
      obtain ⟨_, _, e, _, c3, rgt⟩ := HR9.out.at_ hql
      injection e with e
      injection e with eb eo
      subst eb eo
      rw [hs] at c3
      have OK := HOK.out k r s hlt hr (by subst hq; exact hs)
      obtain ⟨p1, hp1⟩ : ∃ p, (r.1.toList == [112, 97, 116, 104]) = p := ⟨_, rfl⟩
      obtain ⟨p2, hp2⟩ : ∃ p, (r.1.toList == [117, 110, 97, 109, 101]) = p := ⟨_, rfl⟩
      obtain ⟨p3, hp3⟩ : ∃ p, (r.1.toList == [117, 105, 100]) = p := ⟨_, rfl⟩
      have HP1 := hid hp1
      have HP2 := hid hp2
      have HP3 := hid hp3
      have HQ1 := hid (show p1 = true → (100 : Int) < (m.name.size : Int) from fun h => by subst h; have := OK.path (key_of hp1); omega)
      have HQ2 := hid (show p2 = true → (32 : Int) < (m.user.size : Int) from fun h => by subst h; have := OK.user (key_of hp2); omega)
      have HQ3 := hid (show p3 = true → decide (m.uid ≤ 2097151) = false from fun h => by subst h; have := OK.uid (key_of hp3); rw [decide_eq_false_iff_not]; omega)
      obtain ⟨g, hg⟩ : ∃ g, decide (0 < k) = g := ⟨_, rfl⟩
      have HG := hid hg
      have HD2 := hid (show g = true → IntKind.i64.wrap ((k : Int) - 1) = (q : Int) from fun h => by rw [h, decide_eq_true_eq] at hg; rw [IntKind.wrap_i64]; omega)
      have HD3 := hid (show g = true → q < rr.length from fun _ => hql)
      have H3 := hid (show g = true → ∀ V : World, Below w9.heap.size w9 V → V.cell? ⟨b, off + q * 2, none⟩ = some (.string s.1) from fun _ V hV => (hV.cell (p := ⟨b, off + q * 2, none⟩) hbb).trans c3)
      have HQ4 := hid (show g = true → Op.bytesLess s.1.toList r.1.toList = true from fun h => by
        rw [h, decide_eq_true_eq] at hg
        rw [bytesLess_eq, ByteArray.toList_eq, ByteArray.toList_eq]
        exact OK.next hg)
      clear rgt c1 c2 c3 hr hs hq hql hg OK hp1 hp2 hp3
      go_upto_region 11 with fail
      refine wp_region_class (fun W => Below w9.heap.size w9 W) (by kernel_rfl) (by kernel_rfl) (below_drew' HW.out) ?_
      refine quiet_yes 59 (v := ?_) rfl (by kernel_rfl) ?hy59 ?rest59
      case hy59 => (intro W hW; clear hW; go_simp; first | done | with_reducible rfl)
      try simp only [Act.put, List.setIfInBounds_toArray, List.set_cons_zero, List.set_cons_succ]
      refine quiet_yes 60 (v := ?_) rfl (by kernel_rfl) ?hy60 ?rest60
      case hy60 => (intro W hW; clear hW; go_simp; first | done | with_reducible rfl)
      try simp only [Act.put, List.setIfInBounds_toArray, List.set_cons_zero, List.set_cons_succ]
      refine quiet_yes 61 (v := ?_) rfl (by kernel_rfl) ?hy61 ?rest61
      case hy61 => (intro W hW; clear hW; go_simp; first | done | with_reducible rfl)
      try simp only [Act.put, List.setIfInBounds_toArray, List.set_cons_zero, List.set_cons_succ]
      refine quiet_yes 62 (v := ?_) rfl (by kernel_rfl) ?hy62 ?rest62
      case hy62 => (intro W hW; clear hW; go_simp; first | done | with_reducible rfl)
      try simp only [Act.put, List.setIfInBounds_toArray, List.set_cons_zero, List.set_cons_succ]
      refine quiet_yes 63 (v := ?_) rfl (by kernel_rfl) ?hy63 ?rest63
      case hy63 => (intro W hW; have x2 := H1.out W hW; clear hW; go_simp; first | done | with_reducible rfl)
      try simp only [Act.put, List.setIfInBounds_toArray, List.set_cons_zero, List.set_cons_succ]
      refine quiet_yes 64 (v := .bool p1) rfl (by kernel_rfl) ?hy64 ?rest64
      case hy64 => (intro W hW; clear hW; rw [← HP1.out]; go_simp; first | done | with_reducible rfl)
      try simp only [Act.put, List.setIfInBounds_toArray, List.set_cons_zero, List.set_cons_succ]
      refine quiet_yes 65 (v := ?_) rfl (by kernel_rfl) ?hy65 ?rest65
      case hy65 => (intro W hW; clear hW; go_simp; first | done | with_reducible rfl)
      try simp only [Act.put, List.setIfInBounds_toArray, List.set_cons_zero, List.set_cons_succ]
      refine quiet_if 66 (p1) (v := ?_) rfl (by cases p1 <;> kernel_rfl) ?hy66 ?rest66
      case hy66 => (intro hg W hW; subst hg; clear hW; go_simp; first | done | with_reducible rfl)
      try simp only [Act.put, List.setIfInBounds_toArray, List.set_cons_zero, List.set_cons_succ]
      refine quiet_if 67 (p1) (v := ?_) rfl (by cases p1 <;> kernel_rfl) ?hy67 ?rest67
      case hy67 => (intro hg W hW; subst hg; have x5 := HM0.out W hW; clear hW; go_simp; first | done | with_reducible rfl)
      try simp only [Act.put, List.setIfInBounds_toArray, List.set_cons_zero, List.set_cons_succ]
      refine quiet_if 68 (p1) (v := ?_) rfl (by cases p1 <;> kernel_rfl) ?hy68 ?rest68
      case hy68 => (intro hg W hW; subst hg; clear hW; go_simp; first | done | with_reducible rfl)
      try simp only [Act.put, List.setIfInBounds_toArray, List.set_cons_zero, List.set_cons_succ]
      refine quiet_if 69 (p1) (v := .bool false) rfl (by cases p1 <;> kernel_rfl) ?hy69 ?rest69
      case hy69 => (intro hg W hW; subst hg; have q := HQ1.out rfl; clear hW; go_simp; first | done | exact q | omega | with_reducible rfl)
      try simp only [Act.put, List.setIfInBounds_toArray, List.set_cons_zero, List.set_cons_succ]
      refine quiet_yes 70 (v := .bool false) rfl (by kernel_rfl) ?hy70 ?rest70
      case hy70 => (intro W hW; clear hW; cases p1 <;> (go_simp; first | done | with_reducible rfl))
      try simp only [Act.put, List.setIfInBounds_toArray, List.set_cons_zero, List.set_cons_succ]
      refine quiet_yes 71 (v := .bool false) rfl (by kernel_rfl) ?hy71 ?rest71
      case hy71 => (intro W hW; clear hW; go_simp; first | done | with_reducible rfl)
      try simp only [Act.put, List.setIfInBounds_toArray, List.set_cons_zero, List.set_cons_succ]
      refine quiet_yes 72 (v := ?_) rfl (by kernel_rfl) ?hy72 ?rest72
      case hy72 => (intro W hW; clear hW; go_simp; first | done | with_reducible rfl)
      try simp only [Act.put, List.setIfInBounds_toArray, List.set_cons_zero, List.set_cons_succ]
      refine quiet_yes 73 (v := ?_) rfl (by kernel_rfl) ?hy73 ?rest73
      case hy73 => (intro W hW; clear hW; go_simp; first | done | with_reducible rfl)
      try simp only [Act.put, List.setIfInBounds_toArray, List.set_cons_zero, List.set_cons_succ]
      refine quiet_yes 74 (v := ?_) rfl (by kernel_rfl) ?hy74 ?rest74
      case hy74 => (intro W hW; clear hW; go_simp; first | done | with_reducible rfl)
      try simp only [Act.put, List.setIfInBounds_toArray, List.set_cons_zero, List.set_cons_succ]
      refine quiet_yes 75 (v := ?_) rfl (by kernel_rfl) ?hy75 ?rest75
      case hy75 => (intro W hW; clear hW; go_simp; first | done | with_reducible rfl)
      try simp only [Act.put, List.setIfInBounds_toArray, List.set_cons_zero, List.set_cons_succ]
      refine quiet_yes 76 (v := ?_) rfl (by kernel_rfl) ?hy76 ?rest76
      case hy76 => (intro W hW; have x2 := H1.out W hW; clear hW; go_simp; first | done | with_reducible rfl)
      try simp only [Act.put, List.setIfInBounds_toArray, List.set_cons_zero, List.set_cons_succ]
      refine quiet_yes 77 (v := .bool p2) rfl (by kernel_rfl) ?hy77 ?rest77
      case hy77 => (intro W hW; clear hW; rw [← HP2.out]; go_simp; first | done | with_reducible rfl)
      try simp only [Act.put, List.setIfInBounds_toArray, List.set_cons_zero, List.set_cons_succ]
      refine quiet_yes 78 (v := ?_) rfl (by kernel_rfl) ?hy78 ?rest78
      case hy78 => (intro W hW; clear hW; go_simp; first | done | with_reducible rfl)
      try simp only [Act.put, List.setIfInBounds_toArray, List.set_cons_zero, List.set_cons_succ]
      refine quiet_if 79 (p2) (v := ?_) rfl (by cases p2 <;> kernel_rfl) ?hy79 ?rest79
      case hy79 => (intro hg W hW; subst hg; clear hW; go_simp; first | done | with_reducible rfl)
      try simp only [Act.put, List.setIfInBounds_toArray, List.set_cons_zero, List.set_cons_succ]
      refine quiet_if 80 (p2) (v := ?_) rfl (by cases p2 <;> kernel_rfl) ?hy80 ?rest80
      case hy80 => (intro hg W hW; subst hg; have x5 := HM6.out W hW; clear hW; go_simp; first | done | with_reducible rfl)
      try simp only [Act.put, List.setIfInBounds_toArray, List.set_cons_zero, List.set_cons_succ]
      refine quiet_if 81 (p2) (v := ?_) rfl (by cases p2 <;> kernel_rfl) ?hy81 ?rest81
      case hy81 => (intro hg W hW; subst hg; clear hW; go_simp; first | done | with_reducible rfl)
      try simp only [Act.put, List.setIfInBounds_toArray, List.set_cons_zero, List.set_cons_succ]
      refine quiet_if 82 (p2) (v := .bool false) rfl (by cases p2 <;> kernel_rfl) ?hy82 ?rest82
      case hy82 => (intro hg W hW; subst hg; have q := HQ2.out rfl; clear hW; go_simp; first | done | exact q | omega | with_reducible rfl)
      try simp only [Act.put, List.setIfInBounds_toArray, List.set_cons_zero, List.set_cons_succ]
      refine quiet_yes 83 (v := .bool false) rfl (by kernel_rfl) ?hy83 ?rest83
      case hy83 => (intro W hW; clear hW; cases p2 <;> (go_simp; first | done | with_reducible rfl))
      try simp only [Act.put, List.setIfInBounds_toArray, List.set_cons_zero, List.set_cons_succ]
      refine quiet_yes 84 (v := .bool false) rfl (by kernel_rfl) ?hy84 ?rest84
      case hy84 => (intro W hW; clear hW; go_simp; first | done | with_reducible rfl)
      try simp only [Act.put, List.setIfInBounds_toArray, List.set_cons_zero, List.set_cons_succ]
      refine quiet_yes 85 (v := .bool false) rfl (by kernel_rfl) ?hy85 ?rest85
      case hy85 => (intro W hW; clear hW; go_simp; first | done | with_reducible rfl)
      try simp only [Act.put, List.setIfInBounds_toArray, List.set_cons_zero, List.set_cons_succ]
      refine quiet_yes 86 (v := ?_) rfl (by kernel_rfl) ?hy86 ?rest86
      case hy86 => (intro W hW; clear hW; go_simp; first | done | with_reducible rfl)
      try simp only [Act.put, List.setIfInBounds_toArray, List.set_cons_zero, List.set_cons_succ]
      refine quiet_yes 87 (v := ?_) rfl (by kernel_rfl) ?hy87 ?rest87
      case hy87 => (intro W hW; clear hW; go_simp; first | done | with_reducible rfl)
      try simp only [Act.put, List.setIfInBounds_toArray, List.set_cons_zero, List.set_cons_succ]
      refine quiet_yes 88 (v := ?_) rfl (by kernel_rfl) ?hy88 ?rest88
      case hy88 => (intro W hW; clear hW; go_simp; first | done | with_reducible rfl)
      try simp only [Act.put, List.setIfInBounds_toArray, List.set_cons_zero, List.set_cons_succ]
      refine quiet_yes 89 (v := ?_) rfl (by kernel_rfl) ?hy89 ?rest89
      case hy89 => (intro W hW; clear hW; go_simp; first | done | with_reducible rfl)
      try simp only [Act.put, List.setIfInBounds_toArray, List.set_cons_zero, List.set_cons_succ]
      refine quiet_yes 90 (v := ?_) rfl (by kernel_rfl) ?hy90 ?rest90
      case hy90 => (intro W hW; have x2 := H1.out W hW; clear hW; go_simp; first | done | with_reducible rfl)
      try simp only [Act.put, List.setIfInBounds_toArray, List.set_cons_zero, List.set_cons_succ]
      refine quiet_yes 91 (v := .bool p3) rfl (by kernel_rfl) ?hy91 ?rest91
      case hy91 => (intro W hW; clear hW; rw [← HP3.out]; go_simp; first | done | with_reducible rfl)
      try simp only [Act.put, List.setIfInBounds_toArray, List.set_cons_zero, List.set_cons_succ]
      refine quiet_yes 92 (v := ?_) rfl (by kernel_rfl) ?hy92 ?rest92
      case hy92 => (intro W hW; clear hW; go_simp; first | done | with_reducible rfl)
      try simp only [Act.put, List.setIfInBounds_toArray, List.set_cons_zero, List.set_cons_succ]
      refine quiet_if 93 (p3) (v := ?_) rfl (by cases p3 <;> kernel_rfl) ?hy93 ?rest93
      case hy93 => (intro hg W hW; subst hg; clear hW; go_simp; first | done | with_reducible rfl)
      try simp only [Act.put, List.setIfInBounds_toArray, List.set_cons_zero, List.set_cons_succ]
      refine quiet_if 94 (p3) (v := ?_) rfl (by cases p3 <;> kernel_rfl) ?hy94 ?rest94
      case hy94 => (intro hg W hW; subst hg; have x5 := HM4.out W hW; clear hW; go_simp; first | done | with_reducible rfl)
      try simp only [Act.put, List.setIfInBounds_toArray, List.set_cons_zero, List.set_cons_succ]
      refine quiet_if 95 (p3) (v := .bool false) rfl (by cases p3 <;> kernel_rfl) ?hy95 ?rest95
      case hy95 => (intro hg W hW; subst hg; have q := HQ3.out rfl; clear hW; go_simp; first | done | with_reducible rfl)
      try simp only [Act.put, List.setIfInBounds_toArray, List.set_cons_zero, List.set_cons_succ]
      refine quiet_yes 96 (v := .bool false) rfl (by kernel_rfl) ?hy96 ?rest96
      case hy96 => (intro W hW; clear hW; cases p3 <;> (go_simp; first | done | with_reducible rfl))
      try simp only [Act.put, List.setIfInBounds_toArray, List.set_cons_zero, List.set_cons_succ]
      refine quiet_yes 97 (v := .bool false) rfl (by kernel_rfl) ?hy97 ?rest97
      case hy97 => (intro W hW; clear hW; go_simp; first | done | with_reducible rfl)
      try simp only [Act.put, List.setIfInBounds_toArray, List.set_cons_zero, List.set_cons_succ]
      refine quiet_yes 98 (v := .bool false) rfl (by kernel_rfl) ?hy98 ?rest98
      case hy98 => (intro W hW; clear hW; go_simp; first | done | with_reducible rfl)
      try simp only [Act.put, List.setIfInBounds_toArray, List.set_cons_zero, List.set_cons_succ]
      refine quiet_yes 99 (v := ?_) rfl (by kernel_rfl) ?hy99 ?rest99
      case hy99 => (intro W hW; clear hW; go_simp; first | done | with_reducible rfl)
      try simp only [Act.put, List.setIfInBounds_toArray, List.set_cons_zero, List.set_cons_succ]
      refine quiet_yes 100 (v := .bool g) rfl (by kernel_rfl) ?hy100 ?rest100
      case hy100 => (intro W hW; clear hW; rw [← HG.out]; go_simp; first | done | with_reducible rfl)
      try simp only [Act.put, List.setIfInBounds_toArray, List.set_cons_zero, List.set_cons_succ]
      refine quiet_yes 101 (v := ?_) rfl (by kernel_rfl) ?hy101 ?rest101
      case hy101 => (intro W hW; clear hW; go_simp; first | done | with_reducible rfl)
      try simp only [Act.put, List.setIfInBounds_toArray, List.set_cons_zero, List.set_cons_succ]
      refine quiet_if 102 (g) (v := ?_) rfl (by cases g <;> kernel_rfl) ?hy102 ?rest102
      case hy102 => (intro hg W hW; subst hg; have d2 := HD2.out rfl; have d3 := HD3.out rfl; clear hW; go_simp; first | done | with_reducible rfl)
      try simp only [Act.put, List.setIfInBounds_toArray, List.set_cons_zero, List.set_cons_succ]
      refine quiet_if 103 (g) (v := ?_) rfl (by cases g <;> kernel_rfl) ?hy103 ?rest103
      case hy103 => (intro hg W hW; subst hg; have d2 := HD2.out rfl; have d3 := HD3.out rfl; clear hW; go_simp; first | done | with_reducible rfl)
      try simp only [Act.put, List.setIfInBounds_toArray, List.set_cons_zero, List.set_cons_succ]
      refine quiet_if 104 (g) (v := .int .i64 (q : Int)) rfl (by cases g <;> kernel_rfl) ?hy104 ?rest104
      case hy104 => (intro hg W hW; subst hg; have d2 := HD2.out rfl; have d3 := HD3.out rfl; simp only [cond_true]; clear hW; go_simp; first | done | with_reducible rfl)
      try simp only [Act.put, List.setIfInBounds_toArray, List.set_cons_zero, List.set_cons_succ]
      refine quiet_if 105 (g) (v := .pointer (some ⟨b, off + q * 2, none⟩)) rfl (by cases g <;> kernel_rfl) ?hy105 ?rest105
      case hy105 => (intro hg W hW; subst hg; have d2 := HD2.out rfl; have d3 := HD3.out rfl; simp only [cond_true]; clear hW; go_simp; first | done | with_reducible rfl)
      try simp only [Act.put, List.setIfInBounds_toArray, List.set_cons_zero, List.set_cons_succ]
      refine quiet_if 106 (g) (v := ?_) rfl (by cases g <;> kernel_rfl) ?hy106 ?rest106
      case hy106 => (intro hg W hW; subst hg; have d2 := HD2.out rfl; have d3 := HD3.out rfl; simp only [cond_true]; clear hW; go_simp; first | done | with_reducible rfl)
      try simp only [Act.put, List.setIfInBounds_toArray, List.set_cons_zero, List.set_cons_succ]
      refine quiet_if 107 (g) (v := ?_) rfl (by cases g <;> kernel_rfl) ?hy107 ?rest107
      case hy107 => (intro hg W hW; subst hg; have d2 := HD2.out rfl; have d3 := HD3.out rfl; simp only [cond_true]; have x2 := H1.out W hW; have x4 := H3.out rfl W hW; clear hW; go_simp; first | done | with_reducible rfl)
      try simp only [Act.put, List.setIfInBounds_toArray, List.set_cons_zero, List.set_cons_succ]
      refine quiet_if 108 (g) (v := ?_) rfl (by cases g <;> kernel_rfl) ?hy108 ?rest108
      case hy108 => (intro hg W hW; subst hg; have d2 := HD2.out rfl; have d3 := HD3.out rfl; simp only [cond_true]; clear hW; go_simp; first | done | with_reducible rfl)
      try simp only [Act.put, List.setIfInBounds_toArray, List.set_cons_zero, List.set_cons_succ]
      refine quiet_if 109 (g) (v := ?_) rfl (by cases g <;> kernel_rfl) ?hy109 ?rest109
      case hy109 => (intro hg W hW; subst hg; have d2 := HD2.out rfl; have d3 := HD3.out rfl; simp only [cond_true]; clear hW; go_simp; first | done | with_reducible rfl)
      try simp only [Act.put, List.setIfInBounds_toArray, List.set_cons_zero, List.set_cons_succ]
      refine quiet_if 110 (g) (v := ?_) rfl (by cases g <;> kernel_rfl) ?hy110 ?rest110
      case hy110 => (intro hg W hW; subst hg; have d2 := HD2.out rfl; have d3 := HD3.out rfl; simp only [cond_true]; clear hW; go_simp; first | done | with_reducible rfl)
      try simp only [Act.put, List.setIfInBounds_toArray, List.set_cons_zero, List.set_cons_succ]
      refine quiet_if 111 (g) (v := ?_) rfl (by cases g <;> kernel_rfl) ?hy111 ?rest111
      case hy111 => (intro hg W hW; subst hg; have d2 := HD2.out rfl; have d3 := HD3.out rfl; simp only [cond_true]; clear hW; go_simp; first | done | with_reducible rfl)
      try simp only [Act.put, List.setIfInBounds_toArray, List.set_cons_zero, List.set_cons_succ]
      refine quiet_if 112 (g) (v := ?_) rfl (by cases g <;> kernel_rfl) ?hy112 ?rest112
      case hy112 => (intro hg W hW; subst hg; have d2 := HD2.out rfl; have d3 := HD3.out rfl; simp only [cond_true]; have x2 := H1.out W hW; have x4 := H3.out rfl W hW; clear hW; go_simp; first | done | with_reducible rfl)
      try simp only [Act.put, List.setIfInBounds_toArray, List.set_cons_zero, List.set_cons_succ]
      refine quiet_if 113 (g) (v := .bool false) rfl (by cases g <;> kernel_rfl) ?hy113 ?rest113
      case hy113 => (intro hg W hW; subst hg; have d2 := HD2.out rfl; have d3 := HD3.out rfl; have q3 := HQ4.out rfl; simp only [cond_true]; clear hW; go_simp; first | done | with_reducible rfl)
      try simp only [Act.put, List.setIfInBounds_toArray, List.set_cons_zero, List.set_cons_succ]
      refine quiet_yes 114 (v := .bool false) rfl (by kernel_rfl) ?hy114 ?rest114
      case hy114 => (intro W hW; clear hW; cases g <;> (go_simp; first | done | with_reducible rfl))
      try simp only [Act.put, List.setIfInBounds_toArray, List.set_cons_zero, List.set_cons_succ]
      refine quiet_yes 115 (v := .bool false) rfl (by kernel_rfl) ?hy115 ?rest115
      case hy115 => (intro W hW; clear hW; go_simp; first | done | with_reducible rfl)
      try simp only [Act.put, List.setIfInBounds_toArray, List.set_cons_zero, List.set_cons_succ]
      refine wpQuiet_nil ?_
      intro w5 hb5
      clear HM0 HM6 HM4 H1 H3
      have HW5 := hid hb5
      clear hb5 HW
      go_wp2_with fail
      go_roundw
      case rel => exact ⟨k + 1, by go_num, by omega, HW5⟩
      case measure => simp [intOf]; omega
    · obtain rfl : k = rr.length := by omega
      have HB4 := hid (HB9.out.trans (HW.out.mono HB9.out.size))
      clear hlt
      go_wp2_with fail
      refine (known_any B wr (HT.out _ HB4.out).1 (HT.out _ HB4.out).2).mono ?_
      rintro e w5 ⟨rfl, hb5⟩
      have HB5 := hid (HB4.out.trans (hb5.mono HB4.out.size))
      clear hb5
      go_wp2
      go_ret
      exact ⟨rfl, HB5.out⟩
end Go.Proofs.YtbhpedhdhgjkoaaGreatDoor

namespace Go.Proofs.YtbhpedhdhgjkoaaGreatDoor
open Go.RowKit Go.WideShapes Go.ChangeShapes

section
variable {H : Type} {enc : TypeId × Value → H} {P : Program}
/-- The row's last step, where the world below is as it was. -/
theorem post_of_below {f : Func} {s : ChangeSpec} {apart fresh handsOn again : Bool} {W W' : World} {args : Array Value} {v : Value} {ds gs : List (DataW H)} {before pa pv : List MemPlace}
    (hW : DataW.Whole enc P f.params.toList s.vars apart W args.toList ds gs before)
    (hres : ∀ (b : Nat) (sp : Nat → Bool) (hd : Bool), DataW.TrodAll enc P W' b sp hd f.resultTypes.toList (v.resultList f.resultTypes.size) (s.fn H (ds ++ gs)).results [])
    (hargs : ∀ sp : Nat → Bool, (∀ p ∈ before, sp p.block = true) → DataW.TrodAll enc P W' 0 sp true f.params.toList args.toList (s.fn H (ds ++ gs)).args pa)
    (hvars : ∀ sp : Nat → Bool, (∀ p ∈ before, sp p.block = true) → DataW.TrodVars enc P W' sp s.vars (s.fn H (ds ++ gs)).vars pv)
    (hps : before = pa ++ pv) (hb : Below W.heap.size W W')
    (hok : ∀ (j : Nat) (t : TypeId) (r : Value), f.resultTypes[j]? = some t → (v.resultList f.resultTypes.size)[j]? = some r → Value.okWide P W' .any 0 t r) :
    s.post enc P f apart fresh handsOn again W args v W' := by
  have hlt : ∀ p ∈ before, p.block < W.heap.size := fun p hp => hW.lt p hp
  have hold : ∀ p ∈ before, (fun b => decide (b < W.heap.size)) p.block = true := fun p hp => by simpa using hlt p hp
  refine ⟨ds, gs, before, [], pa, pv, hW, hres _ _ _, hargs _ hold, hvars _ hold, World.keptBut_mono (fun p hp => ⟨hp, ?_⟩) (hb.frame (· ∈ before)), fun _ => ?_⟩
  · rw [hps, List.mem_append] at hp
    exact Or.inr hp
  · obtain ⟨_, _, _, _, _, hz, hn⟩ := hW
    refine ⟨hok, _, _, ([] ++ pa) ++ pv, ⟨[] ++ pa, pv, trodAll_append (hargs _ (fun _ _ => rfl)) (hres _ _ _), hvars _ (fun _ _ => rfl), rfl, ?_, ?_⟩, ?_⟩
    · intro b off hp
      have hin : MemPlace.cell b off ∈ before := by rw [hps]; simpa using hp
      rw [hb.frozen (hlt _ hin)]
      exact hz b off hin
    · intro ha
      have := hn ha
      rw [hps] at this
      simpa using this
    · intro p hp _
      rw [hps]
      simpa using hp
end

/-- Bytes that came in. -/
theorem rd_of_row {w : World} {a : Option Addr} {len cap : Nat} {zs : List Int}
    (h : (a = none ∧ len = 0 ∧ cap = 0 ∧ zs = []) ∨
      ∃ x, a = some x ∧ len ≤ cap ∧ cap ≤ maxLen ∧ zs.length = cap ∧ (∀ i, i < zs.length → w.cell? (x.add i) = some (.int .u8 (zs.getD i 0))) ∧ ∀ n ∈ zs, (Lit.int .u8 n).wf = true) :
    Sp.Rd w w.heap.size a len (zs.take len) ∧ len ≤ cap ∧ cap ≤ maxLen := by
  rcases h with ⟨rfl, rfl, rfl, rfl⟩ | ⟨x, rfl, hl, hm, hz, hcell, hwz⟩
  · exact ⟨Sp.Rd.none_, Nat.le_refl _, Nat.zero_le _⟩
  · refine ⟨⟨by rw [List.length_take]; omega, fun z hz' => bounds_u8 (hwz z (List.mem_of_mem_take hz')), fun hn => ?_⟩, hl, hm⟩
    obtain ⟨b, off, spot⟩ := x
    have hc := hcell 0 (by omega)
    have hspot : spot = none := by simpa [Addr.add] using World.cell?_spot hc
    subst hspot
    have hb : b < w.heap.size := by
      have hc' := hc
      rw [show (⟨b, off, none⟩ : Addr).add 0 = ⟨b, off, none⟩ from by simp [Addr.add]] at hc'
      exact World.block_lt_of_cell? _ _ hc'
    refine ⟨b, off, rfl, hb, fun j z hj => ?_⟩
    rw [List.getElem?_take] at hj
    split at hj
    · rename_i hjl
      have hjz : j < zs.length := by omega
      have hcj := hcell j hjz
      have e : (⟨b, off, none⟩ : Addr).add j = ⟨b, off + j, none⟩ := by
        unfold Addr.add
        split
        · rename_i h0
          subst h0
          rfl
        · rfl
      rw [e, List.getD_eq_getElem?_getD, hj] at hcj
      exact hcj
    · cases hj


/-- Atoi's and Itoa's tables. -/
abbrev EV (B : Nat) (w : World) : Prop := Sp.EV B w
theorem star_ : "*" ++ "errors.errorString" = "*errors.errorString" := by decide
/-- What Atoi and Itoa read, out of what is laid. -/
theorem ev_of (w : World) (laid : List (String × DataW Unit)) (a b c : String × DataW Unit) (t1 t2 : List UInt8) (rest : List (String × DataW Unit))
    (hl : laid = a :: b :: ("internal/strconv.uint64pow10", Lib.tabData .u64 Lib.pow10Tab) :: c :: ("strconv.ErrRange", .iface "*errors.errorString" (.ptr (.agg [.lit (.string t1)]))) :: ("strconv.ErrSyntax", .iface "*errors.errorString" (.ptr (.agg [.lit (.string t2)]))) :: rest)
    (hn : (laid.all fun x => x.2.handleName?.isNone) = true) (h : laidMetH Tryz.prog laid w) : EV w.heap.size w := by
  rw [MakeChecks.laidMetH_plain _ _ _ hn, hl] at h
  have h2 := laidMet.tail (laidMet.tail h)
  have h4 := laidMet.tail (laidMet.tail h2)
  have h5 := laidMet.tail h4
  have hrow : ∀ u, Tryz.prog.typeName? 3 u = some "*errors.errorString" → u = 203 := fun u h =>
    typeName_ptr_named (nm := "errors.errorString") (by rw [star_]; kernel_rfl) (by kernel_rfl) (by decide) u (by rw [star_]; exact h)
  obtain ⟨a1, s1, hv1, _⟩ := laid_sentinel h4 (g := 2) (ti := 123) (tp := 203) (te := 205) (ts := 9) (by kernel_rfl) (by kernel_rfl) Tryz.underlying123 hrow Tryz.underlying203 Tryz.underlying205 rfl rfl Tryz.underlying9 (by kernel_rfl) (by kernel_rfl)
  obtain ⟨a2, s2, hv2, _⟩ := laid_sentinel h5 (g := 1) (ti := 123) (tp := 203) (te := 205) (ts := 9) (by kernel_rfl) (by kernel_rfl) Tryz.underlying123 hrow Tryz.underlying203 Tryz.underlying205 rfl rfl Tryz.underlying9 (by kernel_rfl) (by kernel_rfl)
  have c1 := World.var?_cell (g := 2) (by kernel_rfl) hv1 0
  have c2 := World.var?_cell (g := 1) (by kernel_rfl) hv2 0
  exact ⟨Lib.tabBelow_of_tabIs (Lib.tabIs_of_head (g := 0) (by kernel_rfl) (by kernel_rfl) Tryz.underlying179 Tryz.underlying146 (by kernel_rfl) (by kernel_rfl) h2),
    ⟨World.block_lt_of_cell? _ _ c2, _, _, c2⟩, ⟨World.block_lt_of_cell? _ _ c1, _, _, c1⟩⟩
end Go.Proofs.YtbhpedhdhgjkoaaGreatDoor
