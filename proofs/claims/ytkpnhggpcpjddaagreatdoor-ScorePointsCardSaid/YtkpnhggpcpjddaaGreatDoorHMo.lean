/-
  Texts of one chapter, merged.
-/
import Derived.Test.YtkpnhggpcpjddaaGreatDoorHMn
import Derived.Test.YtkpnhggpcpjddaaGreatDoorHMm
import Derived.Test.YtkpnhggpcpjddaaGreatDoorHdRef
import Derived.Test.YtkpnhggpcpjddaaGreatDoorHSumRefS
set_option linter.unusedVariables false
set_option linter.unusedSimpArgs false
/-! The document's Print, as far as its bytes are bytes. -/
namespace Go.Proofs.YtkpnhggpcpjddaaGreatDoor
open Go.RowKit Go.Lib
attribute [local go_sem ↓] run_make512

/-- What the document's Print answers: an error, or 512 bytes. -/
def PrintTo (w : World) (e : Ending) (w' : World) : Prop :=
  ((∃ n : Int, n ≠ 0 ∧ e = .returned (.tuple #[.slice none 0 0, .int .i64 n])) ∨ (∃ g, e = .returned (.tuple #[.slice (some ⟨g, 0, none⟩) 512 512, .int .i64 0]) ∧ w.heap.size ≤ g ∧ B512 w' g)) ∧ Below w.heap.size w w'
theorem b512_new (w : World) : B512 (w.alloc (.cells (bcells (nils 512)).toArray 5)) w.heap.size := B512.of_arr (Arr.new w 5 (nils 512)) (nils_len 512) (nils_bd 512)
theorem HIn.box {w : World} {h : M.Hdr} {pv : Value} (hi : HIn w h pv) {W : World} (hb : Below w.heap.size w W) : HIn W h pv :=
  ⟨PartsB.mono (PartsB.below hi.parts hb) hb.size, hi.nums, hi.kind, hi.ints, hi.texts⟩
theorem HB.all {w : World} {g : Nat} {h : M.Hdr} {pv : Value} (hb : HB w g h pv) : w.cell? ⟨g, 0, none⟩ = some (.string h.name) ∧ w.cell? ⟨g, 1, none⟩ = some (.int .i64 h.mode) ∧ w.cell? ⟨g, 2, none⟩ = some (.int .i64 h.uid) ∧ w.cell? ⟨g, 3, none⟩ = some (.int .i64 h.gid) ∧ w.cell? ⟨g, 4, none⟩ = some (.int .i64 h.size) ∧ w.cell? ⟨g, 5, none⟩ = some (.int .i64 h.mtime) ∧ w.cell? ⟨g, 6, none⟩ = some (.int .u8 h.kind) ∧ w.cell? ⟨g, 7, none⟩ = some (.string h.link) ∧ w.cell? ⟨g, 8, none⟩ = some (.int .i64 h.way) ∧ w.cell? ⟨g, 9, none⟩ = some (.string h.user) ∧ w.cell? ⟨g, 10, none⟩ = some (.string h.group) ∧ w.cell? ⟨g, 11, none⟩ = some (.int .i64 h.major) ∧ w.cell? ⟨g, 12, none⟩ = some (.int .i64 h.minor) ∧ w.cell? ⟨g, 13, none⟩ = some (.string h.pre) ∧ w.cell? ⟨g, 14, none⟩ = some (pv) ∧ w.cell? ⟨g, 15, none⟩ = some (.bool h.more) ∧ w.cell? ⟨g, 16, none⟩ = some (.int .i64 h.real) :=
  ⟨hb.cell rfl, hb.cell rfl, hb.cell rfl, hb.cell rfl, hb.cell rfl, hb.cell rfl, hb.cell rfl, hb.cell rfl, hb.cell rfl, hb.cell rfl, hb.cell rfl, hb.cell rfl, hb.cell rfl, hb.cell rfl, hb.cell rfl, hb.cell rfl, hb.cell rfl⟩
theorem conv_bytes (w : World) (s : ByteArray) : ∃ c w', Sem.run Tryz.prog (convert 9 22 (.string s)) w = .ok (.slice (some ⟨w.heap.size, 0, none⟩) s.size c) w' ∧ Below w.heap.size w w' ∧ RdW w' (some ⟨w.heap.size, 0, none⟩) s.size := by
  refine ⟨_, _, run_bytes_of_string w _ _ 5 s Tryz.underlying9 Tryz.underlying22 Tryz.underlying5, (below_drwR (Below.refl _ _)).alloc (Nat.le_refl _) _, fun _ => ⟨w.heap.size, 0, rfl, fun j hj => ?_⟩⟩
  have hb := fun fr => heap_alloc_new w.drew (.cells (bytesRow s (grownCap w s.size 0 5)) 5 fr)
  have hl : j < s.data.size := hj
  have hlt : (s.data[j]).toNat < 256 := UInt8.toNat_lt _
  refine ⟨(s.data[j]).toNat, by omega, ?_⟩
  rw [show (w.heap.size : Nat) = w.drew.heap.size from rfl, cell_of_row _ _ _ _ _ _ (hb _), Nat.zero_add]
  unfold bytesRow
  rw [Array.getElem?_append_left (by simpa using hl), Array.getElem?_map, Array.getElem?_eq_getElem hl]
  rfl
theorem mgs_size {k : Nat} (h : k < 3) : (mgs k).size = 8 := by
  have h3 : k = 0 ∨ k = 1 ∨ k = 2 := by omega
  rcases h3 with rfl | rfl | rfl <;> rfl
theorem seal_b512 {w : World} {g : Nat} (hb : B512 w g) : Calls Tryz.prog 16 #[.slice (some ⟨g, 0, none⟩) 512 512] w fun e w' => ∃ g', e = .returned (.slice (some ⟨g', 0, none⟩) 512 512) ∧ w.heap.size ≤ g' ∧ B512 w' g' ∧ Below w.heap.size w w' := by
  obtain ⟨zs, hl, hz, ha⟩ := hb
  have hr := ha.rd hz (B := w.heap.size) ha.lt
  rw [hl] at hr
  refine (refSeal_any _ 512 512 zs w _ hr (Nat.le_refl _) (by decide)).mono ?_
  rintro e w' ⟨g', rfl, hg, ha', hb⟩
  exact ⟨g', rfl, hg, B512.of_arr ha' (M.sld_len _) (M.sld_bd hz), hb⟩
theorem LaidTo.one {g : Nat} {w w' : World} {e : Ending} (h : LaidTo g w e w') : ∃ v b, e = .returned (.tuple #[v, .bool b]) ∧ (b = true → v = .slice (some ⟨g, 0, none⟩) 512 512) ∧ B512 w' g ∧ But g w w' := by
  obtain ⟨rfl | rfl, hx, hu⟩ := h
  · exact ⟨.slice none 0 0, false, rfl, (fun h => nomatch h), hx, hu⟩
  · exact ⟨_, true, rfl, (fun _ => rfl), hx, hu⟩
/-- The block, the header's variable and what it tells. -/
structure PT (w W : World) (g : Nat) (h : M.Hdr) (pv : Value) : Prop where
  b : B512 W g
  low : w.heap.size < g
  box : HB W w.heap.size h pv
  hin : HIn W h pv
  below : Below w.heap.size w W
theorem PT.later {w W W' : World} {g : Nat} {h : M.Hdr} {pv : Value} (p : PT w W g h pv) (hi : HIn w h pv) (hb : Below W.heap.size W W') : PT w W' g h pv :=
  ⟨p.b.below hb p.b.lt, p.low, HB.below p.box hb (HB.lt p.box), p.hin.box hb, p.below.trans (hb.mono p.below.size)⟩
theorem PT.but {w W W' : World} {g : Nat} {h : M.Hdr} {pv : Value} (p : PT w W g h pv) (hi : HIn w h pv) (hx : B512 W' g) (hu : But g W W') : PT w W' g h pv :=
  have hb : Below w.heap.size w W' := p.below.trans (hu.below p.below.size (Nat.le_of_lt p.low))
  ⟨hx, p.low, HB.of_block p.box (hu.block _ (HB.lt p.box) (Nat.ne_of_lt p.low)), hi.box hb, hb⟩


set_option maxRecDepth 100000 in
set_option maxHeartbeats 4000000 in
theorem refPrint_any (h : M.Hdr) (A : Option Addr) (c : Nat) (w : World) (hi : HIn w h (.slice A h.parts.length c)) (hfew : h.parts.length ≤ 1000) (hway : 0 ≤ h.way ∧ h.way ≤ 2) :
    Calls Tryz.prog 14 #[.agg (hcells h (.slice A h.parts.length c))] w (PrintTo w) := by
  have bA : Below w.heap.size w (w.alloc (.cells (hcells h (.slice A h.parts.length c)) 33)) := (Below.refl _ _).alloc (Nat.le_refl _) _
  have BA := hid bA
  have HI := hid hi
  have HFew := hid hfew
  have HWay := hid hway
  have HBx := hid (HB.new w h (.slice A h.parts.length c))
  clear hi hfew hway bA
  generalize hn : h.parts.length = n at *
  have HN := hid hn
  clear hn
  have k6 := HB.cell HBx.out (i := 6) (v := .int .u8 h.kind) rfl
  have k8 := HB.cell HBx.out (i := 8) (v := .int .i64 h.way) rfl
  go_enter Tryz.func14, Tryz.ntmps14
  go_upto_region 1 with fail
  have HLd := hid (fun V (hV : Below (w.heap.size + 1) (w.alloc (.cells (hcells h (.slice A n c)) 33)) V) => HB.all (HB.below HBx.out hV (Nat.lt_succ_self _)))
  generalize World.alloc w _ = W at *
  have HSz := hid (HB.lt HBx.out)
  go_cut [21] from 8 to 20 (fun v wx => IsBool v ∧ W = wx)
  case first =>
    go_wp2_with fail
    (with_reducible refine (refKnown_any h.kind W).mono ?_)
    rintro e w1 ⟨rfl, rfl⟩
    generalize M.known h.kind = kn
    cases kn
    all_goals
      go_wp2_with fail
      all_goals
        go_meet
        case rel => exact ⟨⟨_, rfl⟩, rfl⟩
  case rest =>
    clear k6 k8
    obtain ⟨⟨b1, rfl⟩, rfl⟩ := hcut
    cases b1 with
    | true =>
      go_wp2
      go_ret2
      exact ⟨.inl ⟨31, by decide, rfl⟩, BA.out⟩
    | false =>
      go_wp2_with fail
      refine wp_region_held_drew (S := fun V => Below (w.heap.size + 1) W V) (by kernel_rfl) (below_drwR (Below.refl _ _)) (fun hS => ?_)
      refine takeH (i := 1) (v := ?_) 24 rfl rfl (by kernel_rfl) (by kernel_rfl) (by kernel_rfl) (fun _ _ _ h => h) (by rfl) ?hy1 hS ?rest1
      case hy1 => (intro W hW; have f0 := HLd.out W hW; clear hW; go_simp; first | done | with_reducible rfl)
      try simp only [Act.put, List.setIfInBounds_toArray, List.set_cons_zero, List.set_cons_succ]
      refine loneH (i := 0) 23 rfl rfl (by kernel_rfl) (by rfl) (fun K hK => ?_)
      go_simp
      refine hK.out _ _ (hS.alloc (Nat.le_trans HSz.out hS.size) _) (fun hS => ?_)
      clear hK K
      try simp only [Act.put, List.setIfInBounds_toArray, List.set_cons_zero, List.set_cons_succ]
      generalize hSV : (World.alloc W (.cells (bcells (nils 512)).toArray 5)).drew = V at *
      have P0 : Hid (PT w V W.heap.size h (.slice A n c)) := hid (by
        subst hSV
        exact ⟨b512_new W, HSz.out, HB.below HBx.out hS (Nat.lt_succ_self _), HI.out.box (BA.out.trans (hS.mono (Nat.le_succ _))), BA.out.trans (hS.mono (Nat.le_succ _))⟩)
      clear hSV
      refine loneH (i := 2) 25 rfl rfl (by kernel_rfl) (by rfl) (fun K hK => ?_)
      go_simp
      refine (show Calls Tryz.prog 30 _ V (LaidTo W.heap.size V) from refTexts_any W.heap.size h A n c V P0.out.b HI.out.texts).mono ?_
      intro e w1 ht
      obtain ⟨v, b, rfl, hv, hx1, hu1⟩ := ht.one
      have P1 := hid (P0.out.but HI.out hx1 hu1)
      have HU1 := hid hu1
      have HV1 := hid hv
      clear ht hv hx1 hu1
      refine hK.out _ _ (hS.trans (HU1.out.below (Nat.le_trans HSz.out hS.size) HSz.out)) (fun hS => ?_)
      clear hK K
      try simp only [Act.put, List.setIfInBounds_toArray, List.set_cons_zero, List.set_cons_succ]
      refine takeH (i := 3) (v := ?_) 22 rfl rfl (by kernel_rfl) (by kernel_rfl) (by kernel_rfl) (fun _ _ _ h => h) (by rfl) ?hy3 hS ?rest3
      case hy3 => (intro W hW; clear hW; go_simp; first | done | with_reducible rfl)
      try simp only [Act.put, List.setIfInBounds_toArray, List.set_cons_zero, List.set_cons_succ]
      refine takeH (i := 4) (v := ?_) 26 rfl rfl (by kernel_rfl) (by kernel_rfl) (by kernel_rfl) (fun _ _ _ h => h) (by rfl) ?hy4 hS ?rest4
      case hy4 => (intro W hW; clear hW; go_simp; first | done | with_reducible rfl)
      try simp only [Act.put, List.setIfInBounds_toArray, List.set_cons_zero, List.set_cons_succ]
      refine takeH (i := 5) (v := ?_) 27 rfl rfl (by kernel_rfl) (by kernel_rfl) (by kernel_rfl) (fun _ _ _ h => h) (by rfl) ?hy5 hS ?rest5
      case hy5 => (intro W hW; clear hW; go_simp; first | done | with_reducible rfl)
      try simp only [Act.put, List.setIfInBounds_toArray, List.set_cons_zero, List.set_cons_succ]
      refine takeH (i := 6) (v := ?_) 4 rfl rfl (by kernel_rfl) (by kernel_rfl) (by kernel_rfl) (fun _ _ _ h => h) (by rfl) ?hy6 hS ?rest6
      case hy6 => (intro W hW; clear hW; go_simp; first | done | with_reducible rfl)
      try simp only [Act.put, List.setIfInBounds_toArray, List.set_cons_zero, List.set_cons_succ]
      refine takeH (i := 7) (v := ?_) 5 rfl rfl (by kernel_rfl) (by kernel_rfl) (by kernel_rfl) (fun _ _ _ h => h) (by rfl) ?hy7 hS ?rest7
      case hy7 => (intro W hW; clear hW; go_simp; first | done | with_reducible rfl)
      try simp only [Act.put, List.setIfInBounds_toArray, List.set_cons_zero, List.set_cons_succ]
      refine wpAnyH_done (by kernel_rfl) ?_ _
      try simp only [Act.put, List.setIfInBounds_toArray, List.set_cons_zero, List.set_cons_succ]
      clear hS P0 HU1 HLd
      cases b with
      | false =>
        go_wp2
        go_ret2
        exact ⟨.inl ⟨33, by decide, rfl⟩, P1.out.below⟩
      | true =>
        obtain rfl := HV1.out rfl
        clear HV1
        generalize W.heap.size = g at *
        have HB1 := hid P1.out.box
        go_wp2_with (refine wpList_load_row rfl 33 (.tmp 1) rfl w.heap.size (by rfl) 33 (hcells h (.slice A n c)) (0, 0) _ HB1.out Tryz.underlying33 rfl hdr_size ?_)
        have HFt := hid (refFits_any h A c w1 (by rw [HN.out]; exact P1.out.hin) (by rw [HN.out]; exact HFew.out))
        rw [HN.out] at HFt
        refine HFt.out.mono ?_
        rintro e w2 ⟨⟨b2, rfl, hb4⟩, bl2⟩
        have P2 := hid (P1.out.later HI.out bl2)
        clear P1 HB1 HFt bl2
        cases b2 with
        | false =>
          go_wp2_with fail
          go_ret2
          exact ⟨.inl ⟨32, by decide, rfl⟩, P2.out.below⟩
        | true =>
          have H4 := hid (hb4 rfl)
          clear hb4
          have HB2 := hid P2.out.box
          go_wp2_with (refine wpList_load_row rfl 33 (.tmp 1) rfl w.heap.size (by rfl) 33 (hcells h (.slice A n c)) (0, 0) _ HB2.out Tryz.underlying33 rfl hdr_size ?_)
          have HNb := hid (refNumbers_any g h A c w2 P2.out.b (by rw [HN.out]; exact P2.out.hin) (by rw [HN.out]; exact H4.out))
          rw [HN.out] at HNb
          refine HNb.out.mono ?_
          intro e w3 ht
          obtain ⟨v3, b3, rfl, hv3, hx3, hu3⟩ := ht.one
          have P3 := hid (P2.out.but HI.out hx3 hu3)
          clear ht hx3 hu3 P2 HB2 HNb
          cases b3 with
          | false =>
            go_wp2_with fail
            go_ret2
            exact ⟨.inl ⟨32, by decide, rfl⟩, P3.out.below⟩
          | true =>
            obtain rfl := hv3 rfl
            clear hv3
            have k6 := HB.cell P3.out.box (i := 6) (v := .int .u8 h.kind) rfl
            obtain ⟨z, c156, f156⟩ := P3.out.b.at_ (i := 156) (by decide)
            go_upto_region 12 with fail
            have P4 := hid (P3.out.but HI.out (P3.out.b.set 156 HI.out.kind) (But.set g w3 156 (.int .u8 h.kind)))
            generalize w3.setCell _ _ = w4 at *
            clear k6 c156 f156 P3
            obtain ⟨wn, hwn⟩ : ∃ wn : Nat, (wn : Int) = h.way := ⟨h.way.toNat, by have := HWay.out.1; omega⟩
            have HW3 := hid (show wn < 3 by have := HWay.out.2; omega)
            have k8 : w4.cell? ⟨w.heap.size, 8, none⟩ = some (.int .i64 (wn : Int)) := by rw [hwn]; exact HB.cell P4.out.box (i := 8) rfl
            clear hwn
            go_wp2_with fail
            (with_reducible refine (magic_any wn HW3.out w4).mono ?_)
            rintro e w5 ⟨rfl, b5⟩
            have P5 := hid (P4.out.later HI.out b5)
            clear P4 k8 b5
            have hsz := mgs_size HW3.out
            generalize mgs wn = mt at *
            obtain ⟨cc, w6, hcv, b6, hr6⟩ := conv_bytes w5 mt
            rw [hsz] at hcv hr6
            have HR6 := hid hr6
            have P6 := hid (P5.out.later HI.out b6)
            have HL7 := hid (show Calls Tryz.prog 33 #[.slice (some ⟨g, 0, none⟩) 512 512, .int .i64 257, .slice (some ⟨w5.heap.size, 0, none⟩) 8 cc] w6 (fun e w' => e = .returned (.slice (some ⟨g, 0, none⟩) 512 512) ∧ B512 w' g ∧ But g w6 w') from lay_any g 257 _ 8 cc w6 P6.out.b HR6.out (by decide))
            clear hsz hr6 b6
            go_wp2_with fail
            clear hcv
            (with_reducible refine HL7.out.mono ?_)
            rintro e w7 ⟨rfl, hx7, hu7⟩
            have P7 := hid (P6.out.but HI.out hx7 hu7)
            clear hx7 hu7 P6 P5 HR6
            have k15 := HB.cell P7.out.box (i := 15) (v := .bool h.more) rfl
            generalize h.more = bm at k15
            obtain ⟨z, c482, f482⟩ := P7.out.b.at_ (i := 482) (by decide)
            have P8 := hid (P7.out.but HI.out (P7.out.b.set 482 (v := 1) (by decide)) (But.set g w7 482 (.int .u8 1)))
            cases bm with
            | false =>
              clear P8
              have HSl := hid (seal_b512 P7.out.b)
              go_wp2_with fail
              (with_reducible refine HSl.out.mono ?_)
              rintro e w9 ⟨g9, rfl, hg9, hb9, b9⟩
              clear c482 f482 k15
              go_wp2_with fail
              go_ret2
              exact ⟨.inr ⟨g9, rfl, Nat.le_trans P7.out.below.size hg9, hb9⟩, P7.out.below.trans (b9.mono P7.out.below.size)⟩
            | true =>
              go_upto_region 15 with fail
              generalize w7.setCell _ _ = w8 at *
              have HSl := hid (seal_b512 P8.out.b)
              go_wp2_with fail
              (with_reducible refine HSl.out.mono ?_)
              rintro e w9 ⟨g9, rfl, hg9, hb9, b9⟩
              clear c482 f482 k15
              go_wp2_with fail
              go_ret2
              exact ⟨.inr ⟨g9, rfl, Nat.le_trans P8.out.below.size hg9, hb9⟩, P8.out.below.trans (b9.mono P8.out.below.size)⟩
end Go.Proofs.YtkpnhggpcpjddaaGreatDoor

/-! The document's Print, byte by byte. -/
namespace Go.Proofs.YtkpnhggpcpjddaaGreatDoor
open Go.RowKit Go.Lib
attribute [local go_sem ↓] run_make512

/-- What the document's Print answers. -/
def PrintX (h : M.Hdr) (w : World) (e : Ending) (w' : World) : Prop :=
  (match M.dprint h with
    | none => ∃ n : Int, n ≠ 0 ∧ e = .returned (.tuple #[.slice none 0 0, .int .i64 n])
    | some zs => ∃ g, e = .returned (.tuple #[.slice (some ⟨g, 0, none⟩) 512 512, .int .i64 0]) ∧ w.heap.size ≤ g ∧ BX w' g zs) ∧ Below w.heap.size w w'
theorem PrintX.no {h : M.Hdr} {w w' : World} {n : Int} (e : M.dprint h = none) (hn : n ≠ 0) (hb : Below w.heap.size w w') : PrintX h w (.returned (.tuple #[.slice none 0 0, .int .i64 n])) w' := by
  unfold PrintX
  rw [e]
  exact ⟨⟨n, hn, rfl⟩, hb⟩
theorem PrintX.yes {h : M.Hdr} {w w' : World} {g : Nat} {zs : List Int} (e : M.dprint h = some zs) (hg : w.heap.size ≤ g) (hx : BX w' g zs) (hb : Below w.heap.size w w') : PrintX h w (.returned (.tuple #[.slice (some ⟨g, 0, none⟩) 512 512, .int .i64 0])) w' := by
  unfold PrintX
  rw [e]
  exact ⟨⟨g, rfl, hg, hx⟩, hb⟩
theorem PrintX.one {h : M.Hdr} {w w' : World} {e : Ending} (hp : PrintX h w e w') : ∃ v n, e = .returned (.tuple #[v, .int .i64 n]) ∧ (n = 0 → ∃ g zs, v = .slice (some ⟨g, 0, none⟩) 512 512 ∧ w.heap.size ≤ g ∧ BX w' g zs ∧ M.hprint h = (0, zs)) ∧ (n ≠ 0 → (M.hprint h).1 ≠ 0) ∧ Below w.heap.size w w' := by
  obtain ⟨h1, hb⟩ := hp
  cases hd : M.dprint h with
  | none =>
    rw [hd] at h1
    obtain ⟨n, hn, rfl⟩ := h1
    exact ⟨_, n, rfl, fun e => absurd e hn, fun _ => M.dprint_none hd, hb⟩
  | some zs =>
    rw [hd] at h1
    obtain ⟨g, rfl, hg, hx⟩ := h1
    exact ⟨_, 0, rfl, fun _ => ⟨g, zs, rfl, hg, hx, M.of_dprint hd⟩, fun e => absurd rfl e, hb⟩
theorem LaidX.one {g : Nat} {o : Option (List Int)} {w w' : World} {e : Ending} (h : LaidX g o w e w') : ∃ v b, e = .returned (.tuple #[v, .bool b]) ∧ (b = true → v = .slice (some ⟨g, 0, none⟩) 512 512 ∧ ∃ zs, o = some zs ∧ BX w' g zs) ∧ (b = false → o = none) ∧ But g w w' := by
  obtain ⟨h1, hu⟩ := h
  cases o with
  | none => exact ⟨_, false, h1, (fun h => nomatch h), (fun _ => rfl), hu⟩
  | some zs => exact ⟨_, true, h1.1, (fun _ => ⟨rfl, zs, rfl, h1.2⟩), (fun h => nomatch h), hu⟩
/-- The header's variable and what it tells. -/
structure PB (w W : World) (g : Nat) (h : M.Hdr) (pv : Value) : Prop where
  low : w.heap.size < g
  box : HB W w.heap.size h pv
  hin : HIn W h pv
  below : Below w.heap.size w W
/-- The block with its bytes, too. -/
structure PX (w W : World) (g : Nat) (h : M.Hdr) (pv : Value) (zs : List Int) : Prop where
  b : BX W g zs
  low : w.heap.size < g
  box : HB W w.heap.size h pv
  hin : HIn W h pv
  below : Below w.heap.size w W
theorem PB.with_ {w W : World} {g : Nat} {h : M.Hdr} {pv : Value} {zs : List Int} (p : PB w W g h pv) (hb : BX W g zs) : PX w W g h pv zs := ⟨hb, p.low, p.box, p.hin, p.below⟩
theorem PX.later {w W W' : World} {g : Nat} {h : M.Hdr} {pv : Value} {zs : List Int} (p : PX w W g h pv zs) (hi : HIn w h pv) (hb : Below W.heap.size W W') : PX w W' g h pv zs :=
  ⟨p.b.below hb p.b.lt, p.low, HB.below p.box hb (HB.lt p.box), p.hin.box hb, p.below.trans (hb.mono p.below.size)⟩
theorem PX.bare {w W W' : World} {g : Nat} {h : M.Hdr} {pv : Value} {zs : List Int} (p : PX w W g h pv zs) (hi : HIn w h pv) (hu : But g W W') : PB w W' g h pv :=
  have hb : Below w.heap.size w W' := p.below.trans (hu.below p.below.size (Nat.le_of_lt p.low))
  ⟨p.low, HB.of_block p.box (hu.block _ (HB.lt p.box) (Nat.ne_of_lt p.low)), hi.box hb, hb⟩
theorem PX.but {w W W' : World} {g : Nat} {h : M.Hdr} {pv : Value} {zs zs' : List Int} (p : PX w W g h pv zs) (hi : HIn w h pv) (hx : BX W' g zs') (hu : But g W W') : PX w W' g h pv zs' := (p.bare hi hu).with_ hx
theorem conv_bytesX (w : World) (s : ByteArray) : ∃ c w', Sem.run Tryz.prog (convert 9 22 (.string s)) w = .ok (.slice (some ⟨w.heap.size, 0, none⟩) s.size c) w' ∧ Below w.heap.size w w' ∧ Rd w' w'.heap.size (some ⟨w.heap.size, 0, none⟩) s.size (S.ints s.data.toList) := by
  refine ⟨_, _, run_bytes_of_string w _ _ 5 s Tryz.underlying9 Tryz.underlying22 Tryz.underlying5, (below_drwR (Below.refl _ _)).alloc (Nat.le_refl _) _, by rw [S.ints_length]; rfl, S.ints_bd _, fun _ => ⟨w.heap.size, 0, rfl, by rw [World.size_alloc]; exact Nat.lt_succ_self _, fun j z hj => ?_⟩⟩
  have hb := fun fr => heap_alloc_new w.drew (.cells (bytesRow s (grownCap w s.size 0 5)) 5 fr)
  obtain ⟨hl', hz⟩ := List.getElem?_eq_some_iff.1 hj
  have hl : j < s.data.size := by rw [S.ints_length] at hl'; exact hl'
  rw [show (w.heap.size : Nat) = w.drew.heap.size from rfl, cell_of_row _ _ _ _ _ _ (hb _), Nat.zero_add]
  unfold bytesRow
  rw [Array.getElem?_append_left (by simpa using hl), Array.getElem?_map, Array.getElem?_eq_getElem hl]
  have hj' : (s.data.toList.map fun b => (b.toNat : Int))[j]? = some z := hj
  have hl2 : j < s.data.toList.length := hl
  rw [List.getElem?_map, List.getElem?_eq_getElem hl2] at hj'
  have hz2 := Option.some.inj hj'
  rw [← hz2]
  rfl
theorem mgs_ints {k : Nat} (h : k < 3) : S.ints (mgs k).data.toList = M.magic k := by
  have h3 : k = 0 ∨ k = 1 ∨ k = 2 := by omega
  rcases h3 with rfl | rfl | rfl <;> rfl
theorem seal_bx {w : World} {g : Nat} {zs : List Int} (hb : BX w g zs) : Calls Tryz.prog 16 #[.slice (some ⟨g, 0, none⟩) 512 512] w fun e w' => ∃ g', e = .returned (.slice (some ⟨g', 0, none⟩) 512 512) ∧ w.heap.size ≤ g' ∧ BX w' g' (M.sld zs) ∧ Below w.heap.size w w' := by
  have hr := hb.rd (B := w.heap.size) hb.lt
  refine (refSeal_any _ 512 512 zs w _ hr (Nat.le_refl _) (by decide)).mono ?_
  rintro e w' ⟨g', rfl, hg, ha', hb'⟩
  exact ⟨g', rfl, hg, ⟨M.sld_len _, M.sld_bd hb.bd, ha'⟩, hb'⟩

set_option maxRecDepth 100000 in
set_option maxHeartbeats 4000000 in
theorem refPrintX_any (h : M.Hdr) (A : Option Addr) (c : Nat) (w : World) (hi : HIn w h (.slice A h.parts.length c)) (hfew : h.parts.length ≤ 1000) (hway : 0 ≤ h.way ∧ h.way ≤ 2) :
    Calls Tryz.prog 14 #[.agg (hcells h (.slice A h.parts.length c))] w (PrintX h w) := by
  have bA : Below w.heap.size w (w.alloc (.cells (hcells h (.slice A h.parts.length c)) 33)) := (Below.refl _ _).alloc (Nat.le_refl _) _
  have BA := hid bA
  have HI := hid hi
  have HFew := hid hfew
  have HWay := hid hway
  have HBx := hid (HB.new w h (.slice A h.parts.length c))
  clear hi hfew hway bA
  have HDP := hid (rfl : M.dprint h = M.dprint h)
  generalize hn : h.parts.length = n at *
  have HN := hid hn
  clear hn
  have k6 := HB.cell HBx.out (i := 6) (v := .int .u8 h.kind) rfl
  have k8 := HB.cell HBx.out (i := 8) (v := .int .i64 h.way) rfl
  go_enter Tryz.func14, Tryz.ntmps14
  go_upto_region 1 with fail
  have HLd := hid (fun V (hV : Below (w.heap.size + 1) (w.alloc (.cells (hcells h (.slice A n c)) 33)) V) => HB.all (HB.below HBx.out hV (Nat.lt_succ_self _)))
  generalize World.alloc w _ = W at *
  have HSz := hid (HB.lt HBx.out)
  go_cut [21] from 8 to 20 (fun v wx => v = .bool (!(M.known h.kind && M.may h.kind h.way)) ∧ W = wx)
  case first =>
    go_wp2_with fail
    (with_reducible refine (refKnown_any h.kind W).mono ?_)
    rintro e w1 ⟨rfl, rfl⟩
    cases hkn : M.known h.kind
    all_goals
      go_wp2_with fail
      all_goals
        go_meet
        case rel =>
          refine ⟨congrArg Value.bool ?_, rfl⟩
          unfold M.may
          try rw [hkn]
          try simp [*]
          try rfl
  case rest =>
    clear k6 k8
    obtain ⟨rfl, rfl⟩ := hcut
    cases hk1 : (M.known h.kind && M.may h.kind h.way) with
    | false =>
      have HE := hid (show M.dprint h = none by unfold M.dprint; rw [hk1, if_neg Bool.false_ne_true])
      clear hk1
      rw [show (!false) = true from rfl]
      go_wp2
      go_ret2
      exact PrintX.no HE.out (by decide) BA.out
    | true =>
      have HK1 := hid hk1
      clear hk1
      rw [show (!true) = false from rfl]
      go_wp2_with fail
      refine wp_region_held_drew (S := fun V => Below (w.heap.size + 1) W V) (by kernel_rfl) (below_drwR (Below.refl _ _)) (fun hS => ?_)
      refine takeH (i := 1) (v := ?_) 24 rfl rfl (by kernel_rfl) (by kernel_rfl) (by kernel_rfl) (fun _ _ _ h => h) (by rfl) ?hy1 hS ?rest1
      case hy1 => (intro W hW; have f0 := HLd.out W hW; clear hW; go_simp; first | done | with_reducible rfl)
      try simp only [Act.put, List.setIfInBounds_toArray, List.set_cons_zero, List.set_cons_succ]
      refine loneH (i := 0) 23 rfl rfl (by kernel_rfl) (by rfl) (fun K hK => ?_)
      go_simp
      refine hK.out _ _ (hS.alloc (Nat.le_trans HSz.out hS.size) _) (fun hS => ?_)
      clear hK K
      try simp only [Act.put, List.setIfInBounds_toArray, List.set_cons_zero, List.set_cons_succ]
      generalize hSV : (World.alloc W (.cells (bcells (nils 512)).toArray 5)).drew = V at *
      have P0 : Hid (PX w V W.heap.size h (.slice A n c) (nils 512)) := hid (by
        subst hSV
        exact ⟨(BX.new W).drew, HSz.out, HB.below HBx.out hS (Nat.lt_succ_self _), HI.out.box (BA.out.trans (hS.mono (Nat.le_succ _))), BA.out.trans (hS.mono (Nat.le_succ _))⟩)
      clear hSV
      refine loneH (i := 2) 25 rfl rfl (by kernel_rfl) (by rfl) (fun K hK => ?_)
      go_simp
      refine (show Calls Tryz.prog 30 _ V (LaidX W.heap.size (M.dt (nils 512) (M.tq h)) V) from refTextsX_any W.heap.size (nils 512) h A n c V P0.out.b HI.out.texts).mono ?_
      intro e w1 ht
      obtain ⟨v, b, rfl, hv, hno, hu1⟩ := ht.one
      have P1 := hid (P0.out.bare HI.out hu1)
      have HNO := hid hno
      have HU1 := hid hu1
      have HV1 := hid hv
      clear ht hv hno hu1
      refine hK.out _ _ (hS.trans (HU1.out.below (Nat.le_trans HSz.out hS.size) HSz.out)) (fun hS => ?_)
      clear hK K
      try simp only [Act.put, List.setIfInBounds_toArray, List.set_cons_zero, List.set_cons_succ]
      refine takeH (i := 3) (v := ?_) 22 rfl rfl (by kernel_rfl) (by kernel_rfl) (by kernel_rfl) (fun _ _ _ h => h) (by rfl) ?hy3 hS ?rest3
      case hy3 => (intro W hW; clear hW; go_simp; first | done | with_reducible rfl)
      try simp only [Act.put, List.setIfInBounds_toArray, List.set_cons_zero, List.set_cons_succ]
      refine takeH (i := 4) (v := ?_) 26 rfl rfl (by kernel_rfl) (by kernel_rfl) (by kernel_rfl) (fun _ _ _ h => h) (by rfl) ?hy4 hS ?rest4
      case hy4 => (intro W hW; clear hW; go_simp; first | done | with_reducible rfl)
      try simp only [Act.put, List.setIfInBounds_toArray, List.set_cons_zero, List.set_cons_succ]
      refine takeH (i := 5) (v := ?_) 27 rfl rfl (by kernel_rfl) (by kernel_rfl) (by kernel_rfl) (fun _ _ _ h => h) (by rfl) ?hy5 hS ?rest5
      case hy5 => (intro W hW; clear hW; go_simp; first | done | with_reducible rfl)
      try simp only [Act.put, List.setIfInBounds_toArray, List.set_cons_zero, List.set_cons_succ]
      refine takeH (i := 6) (v := ?_) 4 rfl rfl (by kernel_rfl) (by kernel_rfl) (by kernel_rfl) (fun _ _ _ h => h) (by rfl) ?hy6 hS ?rest6
      case hy6 => (intro W hW; clear hW; go_simp; first | done | with_reducible rfl)
      try simp only [Act.put, List.setIfInBounds_toArray, List.set_cons_zero, List.set_cons_succ]
      refine takeH (i := 7) (v := ?_) 5 rfl rfl (by kernel_rfl) (by kernel_rfl) (by kernel_rfl) (fun _ _ _ h => h) (by rfl) ?hy7 hS ?rest7
      case hy7 => (intro W hW; clear hW; go_simp; first | done | with_reducible rfl)
      try simp only [Act.put, List.setIfInBounds_toArray, List.set_cons_zero, List.set_cons_succ]
      refine wpAnyH_done (by kernel_rfl) ?_ _
      try simp only [Act.put, List.setIfInBounds_toArray, List.set_cons_zero, List.set_cons_succ]
      clear hS P0 HU1 HLd
      cases b with
      | false =>
        have HE := hid (show M.dprint h = none by unfold M.dprint; rw [HK1.out, if_pos rfl, HNO.out rfl]; rfl)
        go_wp2
        go_ret2
        exact PrintX.no HE.out (by decide) P1.out.below
      | true =>
        obtain ⟨rfl, zt, hzt, hbt⟩ := HV1.out rfl
        clear HV1 HNO
        have HZT := hid hzt
        have P1 := hid (P1.out.with_ hbt)
        clear hzt hbt
        generalize W.heap.size = g at *
        have HB1 := hid P1.out.box
        go_wp2_with (refine wpList_load_row rfl 33 (.tmp 1) rfl w.heap.size (by rfl) 33 (hcells h (.slice A n c)) (0, 0) _ HB1.out Tryz.underlying33 rfl hdr_size ?_)
        have HFt := hid (refFitsX_any h A c w1 (by rw [HN.out]; exact P1.out.hin) (by rw [HN.out]; exact HFew.out))
        rw [HN.out] at HFt
        refine HFt.out.mono ?_
        rintro e w2 ⟨rfl, bl2⟩
        have P2 := hid (P1.out.later HI.out bl2)
        clear P1 HB1 HFt bl2
        cases hft : M.fits h with
        | false =>
          have HE := hid (show M.dprint h = none by unfold M.dprint; rw [HK1.out, if_pos rfl, HZT.out, Option.bind_some, hft, if_neg Bool.false_ne_true])
          clear hft
          go_wp2_with fail
          go_ret2
          exact PrintX.no HE.out (by decide) P2.out.below
        | true =>
          have HFT := hid hft
          have H4 := hid (show n ≤ 4 by have := (M.f1_iff.1 (M.fits_iff.1 hft).1).2.2.2.2; rw [HN.out] at this; exact this)
          clear hft
          have HB2 := hid P2.out.box
          go_wp2_with (refine wpList_load_row rfl 33 (.tmp 1) rfl w.heap.size (by rfl) 33 (hcells h (.slice A n c)) (0, 0) _ HB2.out Tryz.underlying33 rfl hdr_size ?_)
          have HNb := hid (refNumbersX_any g zt h A c w2 P2.out.b (by rw [HN.out]; exact P2.out.hin) (by rw [HN.out]; exact H4.out))
          rw [HN.out] at HNb
          refine HNb.out.mono ?_
          intro e w3 ht
          obtain ⟨v3, b3, rfl, hv3, hno3, hu3⟩ := ht.one
          have P3 := hid (P2.out.bare HI.out hu3)
          clear ht hu3 P2 HB2 HNb
          cases b3 with
          | false =>
            have HE := hid (show M.dprint h = none by unfold M.dprint; rw [HK1.out, if_pos rfl, HZT.out, Option.bind_some, HFT.out, if_pos rfl, hno3 rfl]; rfl)
            clear hno3
            go_wp2_with fail
            go_ret2
            exact PrintX.no HE.out (by decide) P3.out.below
          | true =>
            obtain ⟨rfl, zn, hzn, hbn⟩ := hv3 rfl
            have HE := hid (show M.dprint h = some (M.sld (if h.more = true then (splice (zn.set 156 h.kind) 257 (M.magic h.way.toNat)).set 482 1 else splice (zn.set 156 h.kind) 257 (M.magic h.way.toNat))) by
              unfold M.dprint
              rw [HK1.out, if_pos rfl, HZT.out, Option.bind_some, HFT.out, if_pos rfl, hzn]
              rfl)
            have P3 := hid (P3.out.with_ hbn)
            clear hv3 hzn hbn hno3
            have k6 := HB.cell P3.out.box (i := 6) (v := .int .u8 h.kind) rfl
            obtain ⟨z, c156, f156⟩ := P3.out.b.at_ (i := 156) (by decide)
            go_upto_region 12 with fail
            have P4 := hid (P3.out.but HI.out (P3.out.b.set 156 HI.out.kind) (But.set g w3 156 (.int .u8 h.kind)))
            generalize w3.setCell _ _ = w4 at *
            clear k6 c156 f156 P3
            obtain ⟨wn, hwn⟩ : ∃ wn : Nat, (wn : Int) = h.way := ⟨h.way.toNat, by have := HWay.out.1; omega⟩
            have HW3 := hid (show wn < 3 by have := HWay.out.2; omega)
            have HWN := hid (show h.way.toNat = wn by omega)
            have k8 : w4.cell? ⟨w.heap.size, 8, none⟩ = some (.int .i64 (wn : Int)) := by rw [hwn]; exact HB.cell P4.out.box (i := 8) rfl
            clear hwn
            go_wp2_with fail
            (with_reducible refine (magic_any wn HW3.out w4).mono ?_)
            rintro e w5 ⟨rfl, b5⟩
            have P5 := hid (P4.out.later HI.out b5)
            clear P4 k8 b5
            have hsz := mgs_size HW3.out
            have HMG := hid (mgs_ints HW3.out)
            generalize mgs wn = mt at *
            obtain ⟨cc, w6, hcv, b6, hr6⟩ := conv_bytesX w5 mt
            rw [hsz] at hcv hr6
            have HR6 := hid hr6
            have P6 := hid (P5.out.later HI.out b6)
            have HL7 := hid (show Calls Tryz.prog 33 #[.slice (some ⟨g, 0, none⟩) 512 512, .int .i64 257, .slice (some ⟨w5.heap.size, 0, none⟩) 8 cc] w6 (fun e w' => e = .returned (.slice (some ⟨g, 0, none⟩) 512 512) ∧ BX w' g (splice (zn.set 156 h.kind) 257 (M.magic wn)) ∧ But g w6 w') from HMG.out ▸ layX_any g 257 _ 8 cc _ _ w6 P6.out.b HR6.out (fun b off e => by injection e with e; injection e with e; exact e ▸ Nat.ne_of_gt P5.out.b.lt) (by decide))
            clear hsz hr6 b6
            go_wp2_with fail
            clear hcv
            (with_reducible refine HL7.out.mono ?_)
            rintro e w7 ⟨rfl, hx7, hu7⟩
            have P7 := hid (P6.out.but HI.out hx7 hu7)
            clear hx7 hu7 P6 P5 HR6
            have k15 := HB.cell P7.out.box (i := 15) (v := .bool h.more) rfl
            generalize h.more = bm at k15 HE
            rw [HWN.out] at HE
            obtain ⟨z, c482, f482⟩ := P7.out.b.at_ (i := 482) (by decide)
            have P8 := hid (P7.out.but HI.out (P7.out.b.set 482 (v := 1) (by decide)) (But.set g w7 482 (.int .u8 1)))
            cases bm with
            | false =>
              clear P8
              have HSl := hid (seal_bx P7.out.b)
              go_wp2_with fail
              (with_reducible refine HSl.out.mono ?_)
              rintro e w9 ⟨g9, rfl, hg9, hb9, b9⟩
              clear c482 f482 k15
              go_wp2_with fail
              go_ret2
              exact PrintX.yes (by rw [HE.out, if_neg Bool.false_ne_true]) (Nat.le_trans P7.out.below.size hg9) hb9 (P7.out.below.trans (b9.mono P7.out.below.size))
            | true =>
              go_upto_region 15 with fail
              generalize w7.setCell _ _ = w8 at *
              have HSl := hid (seal_bx P8.out.b)
              go_wp2_with fail
              (with_reducible refine HSl.out.mono ?_)
              rintro e w9 ⟨g9, rfl, hg9, hb9, b9⟩
              clear c482 f482 k15
              go_wp2_with fail
              go_ret2
              exact PrintX.yes (by rw [HE.out, if_pos (by trivial)]) (Nat.le_trans P8.out.below.size hg9) hb9 (P8.out.below.trans (b9.mono P8.out.below.size))
end Go.Proofs.YtkpnhggpcpjddaaGreatDoor
