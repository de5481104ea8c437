/-
  The document's Print, as far as its bytes are bytes.
-/
import Derived.Test.YtbjejgnfnpednaaDoorHdFits
import Derived.Test.YtbjejgnfnpednaaDoorHdNumsR
import Derived.Test.YtbjejgnfnpednaaDoorHdRef
import Derived.Test.YtbjejgnfnpednaaDoorHSumRefS
namespace Go.Proofs.YtbjejgnfnpednaaDoor
open Go.RowKit Go.Lib
attribute [local go_sem ↓] run_make512

/-- What the document's Print answers: an error, or 512 bytes. -/
def PrintTo (w : World) (e : Ending) (w' : World) : Prop :=
  ((∃ n : Int, n ≠ 0 ∧ e = .returned (.tuple #[.slice none 0 0, .int .i64 n])) ∨ (∃ g, e = .returned (.tuple #[.slice (some ⟨g, 0, none⟩) 512 512, .int .i64 0]) ∧ w.heap.size ≤ g ∧ B512 w' g)) ∧ Below w.heap.size w w'
theorem b512_new (w : World) : B512 (w.alloc (.cells (bcells (nils 512)).toArray 5)) w.heap.size := B512.of_arr (Arr.new w 5 (nils 512)) (nils_len 512) (nils_bd 512)
theorem HIn.box {w : World} {h : M.Hdr} {pv : Value} (hi : HIn w h pv) {W : World} (hb : Below w.heap.size w W) : HIn W h pv :=
  ⟨PartsB.mono (PartsB.below hi.parts hb) hb.size, hi.nums, hi.kind, hi.ints, hi.texts⟩
theorem HB.all {w : World} {g : Nat} {h : M.Hdr} {pv : Value} (hb : HB w g h pv) : w.cell? ⟨g, 0, none⟩ = some (.string h.name) ∧ w.cell? ⟨g, 1, none⟩ = some (.int .i64 h.mode) ∧ w.cell? ⟨g, 2, none⟩ = some (.int .i64 h.uid) ∧ w.cell? ⟨g, 3, none⟩ = some (.int .i64 h.gid) ∧ w.cell? ⟨g, 4, none⟩ = some (.int .i64 h.size) ∧ w.cell? ⟨g, 5, none⟩ = some (.int .i64 h.mtime) ∧ w.cell? ⟨g, 6, none⟩ = some (.int .u8 h.kind) ∧ w.cell? ⟨g, 7, none⟩ = some (.string h.link) ∧ w.cell? ⟨g, 8, none⟩ = some (.int .i64 h.way) ∧ w.cell? ⟨g, 9, none⟩ = some (.string h.user) ∧ w.cell? ⟨g, 10, none⟩ = some (.string h.group) ∧ w.cell? ⟨g, 11, none⟩ = some (.int .i64 h.major) ∧ w.cell? ⟨g, 12, none⟩ = some (.int .i64 h.minor) ∧ w.cell? ⟨g, 13, none⟩ = some (.string h.pre) ∧ w.cell? ⟨g, 14, none⟩ = some (pv) ∧ w.cell? ⟨g, 15, none⟩ = some (.bool h.more) ∧ w.cell? ⟨g, 16, none⟩ = some (.int .i64 h.real) :=
  ⟨hb.cell rfl, hb.cell rfl, hb.cell rfl, hb.cell rfl, hb.cell rfl, hb.cell rfl, hb.cell rfl, hb.cell rfl, hb.cell rfl, hb.cell rfl, hb.cell rfl, hb.cell rfl, hb.cell rfl, hb.cell rfl, hb.cell rfl, hb.cell rfl, hb.cell rfl⟩
theorem conv_bytes (w : World) (s : ByteArray) : ∃ c w', Sem.run Tryd.prog (convert 9 22 (.string s)) w = .ok (.slice (some ⟨w.heap.size, 0, none⟩) s.size c) w' ∧ Below w.heap.size w w' ∧ RdW w' (some ⟨w.heap.size, 0, none⟩) s.size := by
  refine ⟨_, _, run_bytes_of_string w _ _ 5 s Tryd.underlying9 Tryd.underlying22 Tryd.underlying5, (below_drwR (Below.refl _ _)).alloc (Nat.le_refl _) _, fun _ => ⟨w.heap.size, 0, rfl, fun j hj => ?_⟩⟩
  have hb := fun fr => heap_alloc_new w.drew (.cells (bytesRow s (grownCap w s.size 0 5)) 5 fr)
  have hl : j < s.data.size := hj
  have hlt : (s.data[j]).toNat < 256 := UInt8.toNat_lt _
  refine ⟨(s.data[j]).toNat, by omega, ?_⟩
  rw [show (w.heap.size : Nat) = w.drew.heap.size from rfl, cell_of_row _ _ _ _ _ _ (hb _), Nat.zero_add]
  unfold bytesRow
  rw [Array.getElem?_append_left (by simpa using hl), Array.getElem?_map, Array.getElem?_eq_getElem hl]
  rfl
theorem mgs_size {k : Nat} (h : k < 3) : (mgs k).size = 8 := by
  have h3 : k = 0 ∨ k = 1 ∨ k = 2 := by omega
  rcases h3 with rfl | rfl | rfl <;> rfl
theorem seal_b512 {w : World} {g : Nat} (hb : B512 w g) : Calls Tryd.prog 42 #[.slice (some ⟨g, 0, none⟩) 512 512] w fun e w' => ∃ g', e = .returned (.slice (some ⟨g', 0, none⟩) 512 512) ∧ w.heap.size ≤ g' ∧ B512 w' g' ∧ Below w.heap.size w w' := by
  obtain ⟨zs, hl, hz, ha⟩ := hb
  have hr := ha.rd hz (B := w.heap.size) ha.lt
  rw [hl] at hr
  refine (refSeal_any _ 512 512 zs w _ hr (Nat.le_refl _) (by decide)).mono ?_
  rintro e w' ⟨g', rfl, hg, ha', hb⟩
  exact ⟨g', rfl, hg, B512.of_arr ha' (M.sld_len _) (M.sld_bd hz), hb⟩
theorem LaidTo.one {g : Nat} {w w' : World} {e : Ending} (h : LaidTo g w e w') : ∃ v b, e = .returned (.tuple #[v, .bool b]) ∧ (b = true → v = .slice (some ⟨g, 0, none⟩) 512 512) ∧ B512 w' g ∧ But g w w' := by
  obtain ⟨rfl | rfl, hx, hu⟩ := h
  · exact ⟨.slice none 0 0, false, rfl, (fun h => nomatch h), hx, hu⟩
  · exact ⟨_, true, rfl, (fun _ => rfl), hx, hu⟩
/-- The block, the header's variable and what it tells. -/
structure PT (w W : World) (g : Nat) (h : M.Hdr) (pv : Value) : Prop where
  b : B512 W g
  low : w.heap.size < g
  box : HB W w.heap.size h pv
  hin : HIn W h pv
  below : Below w.heap.size w W
theorem PT.later {w W W' : World} {g : Nat} {h : M.Hdr} {pv : Value} (p : PT w W g h pv) (hi : HIn w h pv) (hb : Below W.heap.size W W') : PT w W' g h pv :=
  ⟨p.b.below hb p.b.lt, p.low, HB.below p.box hb (HB.lt p.box), p.hin.box hb, p.below.trans (hb.mono p.below.size)⟩
theorem PT.but {w W W' : World} {g : Nat} {h : M.Hdr} {pv : Value} (p : PT w W g h pv) (hi : HIn w h pv) (hx : B512 W' g) (hu : But g W W') : PT w W' g h pv :=
  have hb : Below w.heap.size w W' := p.below.trans (hu.below p.below.size (Nat.le_of_lt p.low))
  ⟨hx, p.low, HB.of_block p.box (hu.block _ (HB.lt p.box) (Nat.ne_of_lt p.low)), hi.box hb, hb⟩


set_option maxRecDepth 100000 in
set_option maxHeartbeats 4000000 in
theorem refPrint_any (h : M.Hdr) (A : Option Addr) (c : Nat) (w : World) (hi : HIn w h (.slice A h.parts.length c)) (hfew : h.parts.length ≤ 1000) (hway : 0 ≤ h.way ∧ h.way ≤ 2) :
    Calls Tryd.prog 41 #[.agg (hcells h (.slice A h.parts.length c))] w (PrintTo w) := by
  have bA : Below w.heap.size w (w.alloc (.cells (hcells h (.slice A h.parts.length c)) 25)) := (Below.refl _ _).alloc (Nat.le_refl _) _
  have BA := hid bA
  have HI := hid hi
  have HFew := hid hfew
  have HWay := hid hway
  have HBx := hid (HB.new w h (.slice A h.parts.length c))
  clear hi hfew hway bA
  generalize hn : h.parts.length = n at *
  have HN := hid hn
  clear hn
  have k6 := HB.cell HBx.out (i := 6) (v := .int .u8 h.kind) rfl
  have k8 := HB.cell HBx.out (i := 8) (v := .int .i64 h.way) rfl
  go_enter Tryd.func41, Tryd.ntmps41
  go_upto_region 1 with fail
  have HLd := hid (fun V (hV : Below (w.heap.size + 1) (w.alloc (.cells (hcells h (.slice A n c)) 25)) V) => HB.all (HB.below HBx.out hV (Nat.lt_succ_self _)))
  generalize World.alloc w _ = W at *
  have HSz := hid (HB.lt HBx.out)
  go_cut [21] from 8 to 20 (fun v wx => IsBool v ∧ W = wx)
  case first =>
    go_wp2_with fail
    (with_reducible refine (refKnown_any h.kind W).mono ?_)
    rintro e w1 ⟨rfl, rfl⟩
    generalize M.known h.kind = kn
    cases kn
    all_goals
      go_wp2_with fail
      all_goals
        go_meet
        case rel => exact ⟨⟨_, rfl⟩, rfl⟩
  case rest =>
    clear k6 k8
    obtain ⟨⟨b1, rfl⟩, rfl⟩ := hcut
    cases b1 with
    | true =>
      go_wp2
      go_ret2
      exact ⟨.inl ⟨31, by decide, rfl⟩, BA.out⟩
    | false =>
      go_wp2_with fail
      refine wp_region_held_drew (S := fun V => Below (w.heap.size + 1) W V) (by kernel_rfl) (below_drwR (Below.refl _ _)) (fun hS => ?_)
      refine takeH (i := 1) (v := ?_) 24 rfl rfl (by kernel_rfl) (by kernel_rfl) (by kernel_rfl) (fun _ _ _ h => h) (by rfl) ?hy1 hS ?rest1
      case hy1 => (intro W hW; have f0 := HLd.out W hW; clear hW; go_simp; first | done | with_reducible rfl)
      try simp only [Act.put, List.setIfInBounds_toArray, List.set_cons_zero, List.set_cons_succ]
      refine loneH (i := 0) 23 rfl rfl (by kernel_rfl) (by rfl) (fun K hK => ?_)
      go_simp
      refine hK.out _ _ (hS.alloc (Nat.le_trans HSz.out hS.size) _) (fun hS => ?_)
      clear hK K
      try simp only [Act.put, List.setIfInBounds_toArray, List.set_cons_zero, List.set_cons_succ]
      generalize hSV : (World.alloc W (.cells (bcells (nils 512)).toArray 5)).drew = V at *
      have P0 : Hid (PT w V W.heap.size h (.slice A n c)) := hid (by
        subst hSV
        exact ⟨b512_new W, HSz.out, HB.below HBx.out hS (Nat.lt_succ_self _), HI.out.box (BA.out.trans (hS.mono (Nat.le_succ _))), BA.out.trans (hS.mono (Nat.le_succ _))⟩)
      clear hSV
      refine loneH (i := 2) 25 rfl rfl (by kernel_rfl) (by rfl) (fun K hK => ?_)
      go_simp
      refine (show Calls Tryd.prog 63 _ V (LaidTo W.heap.size V) from refTexts_any W.heap.size h A n c V P0.out.b HI.out.texts).mono ?_
      intro e w1 ht
      obtain ⟨v, b, rfl, hv, hx1, hu1⟩ := ht.one
      have P1 := hid (P0.out.but HI.out hx1 hu1)
      have HU1 := hid hu1
      have HV1 := hid hv
      clear ht hv hx1 hu1
      refine hK.out _ _ (hS.trans (HU1.out.below (Nat.le_trans HSz.out hS.size) HSz.out)) (fun hS => ?_)
      clear hK K
      try simp only [Act.put, List.setIfInBounds_toArray, List.set_cons_zero, List.set_cons_succ]
      refine takeH (i := 3) (v := ?_) 22 rfl rfl (by kernel_rfl) (by kernel_rfl) (by kernel_rfl) (fun _ _ _ h => h) (by rfl) ?hy3 hS ?rest3
      case hy3 => (intro W hW; clear hW; go_simp; first | done | with_reducible rfl)
      try simp only [Act.put, List.setIfInBounds_toArray, List.set_cons_zero, List.set_cons_succ]
      refine takeH (i := 4) (v := ?_) 26 rfl rfl (by kernel_rfl) (by kernel_rfl) (by kernel_rfl) (fun _ _ _ h => h) (by rfl) ?hy4 hS ?rest4
      case hy4 => (intro W hW; clear hW; go_simp; first | done | with_reducible rfl)
      try simp only [Act.put, List.setIfInBounds_toArray, List.set_cons_zero, List.set_cons_succ]
      refine takeH (i := 5) (v := ?_) 27 rfl rfl (by kernel_rfl) (by kernel_rfl) (by kernel_rfl) (fun _ _ _ h => h) (by rfl) ?hy5 hS ?rest5
      case hy5 => (intro W hW; clear hW; go_simp; first | done | with_reducible rfl)
      try simp only [Act.put, List.setIfInBounds_toArray, List.set_cons_zero, List.set_cons_succ]
      refine takeH (i := 6) (v := ?_) 4 rfl rfl (by kernel_rfl) (by kernel_rfl) (by kernel_rfl) (fun _ _ _ h => h) (by rfl) ?hy6 hS ?rest6
      case hy6 => (intro W hW; clear hW; go_simp; first | done | with_reducible rfl)
      try simp only [Act.put, List.setIfInBounds_toArray, List.set_cons_zero, List.set_cons_succ]
      refine takeH (i := 7) (v := ?_) 5 rfl rfl (by kernel_rfl) (by kernel_rfl) (by kernel_rfl) (fun _ _ _ h => h) (by rfl) ?hy7 hS ?rest7
      case hy7 => (intro W hW; clear hW; go_simp; first | done | with_reducible rfl)
      try simp only [Act.put, List.setIfInBounds_toArray, List.set_cons_zero, List.set_cons_succ]
      refine wpAnyH_done (by kernel_rfl) ?_ _
      try simp only [Act.put, List.setIfInBounds_toArray, List.set_cons_zero, List.set_cons_succ]
      clear hS P0 HU1 HLd
      cases b with
      | false =>
        go_wp2
        go_ret2
        exact ⟨.inl ⟨33, by decide, rfl⟩, P1.out.below⟩
      | true =>
        obtain rfl := HV1.out rfl
        clear HV1
        generalize W.heap.size = g at *
        have HB1 := hid P1.out.box
        go_wp2_with (refine wpList_load_row rfl 25 (.tmp 1) rfl w.heap.size (by rfl) 25 (hcells h (.slice A n c)) (0, 0) _ HB1.out Tryd.underlying25 rfl hdr_size ?_)
        have HFt := hid (refFits_any h A c w1 (by rw [HN.out]; exact P1.out.hin) (by rw [HN.out]; exact HFew.out))
        rw [HN.out] at HFt
        refine HFt.out.mono ?_
        rintro e w2 ⟨⟨b2, rfl, hb4⟩, bl2⟩
        have P2 := hid (P1.out.later HI.out bl2)
        clear P1 HB1 HFt bl2
        cases b2 with
        | false =>
          go_wp2_with fail
          go_ret2
          exact ⟨.inl ⟨32, by decide, rfl⟩, P2.out.below⟩
        | true =>
          have H4 := hid (hb4 rfl)
          clear hb4
          have HB2 := hid P2.out.box
          go_wp2_with (refine wpList_load_row rfl 25 (.tmp 1) rfl w.heap.size (by rfl) 25 (hcells h (.slice A n c)) (0, 0) _ HB2.out Tryd.underlying25 rfl hdr_size ?_)
          have HNb := hid (refNumbers_any g h A c w2 P2.out.b (by rw [HN.out]; exact P2.out.hin) (by rw [HN.out]; exact H4.out))
          rw [HN.out] at HNb
          refine HNb.out.mono ?_
          intro e w3 ht
          obtain ⟨v3, b3, rfl, hv3, hx3, hu3⟩ := ht.one
          have P3 := hid (P2.out.but HI.out hx3 hu3)
          clear ht hx3 hu3 P2 HB2 HNb
          cases b3 with
          | false =>
            go_wp2_with fail
            go_ret2
            exact ⟨.inl ⟨32, by decide, rfl⟩, P3.out.below⟩
          | true =>
            obtain rfl := hv3 rfl
            clear hv3
            have k6 := HB.cell P3.out.box (i := 6) (v := .int .u8 h.kind) rfl
            obtain ⟨z, c156, f156⟩ := P3.out.b.at_ (i := 156) (by decide)
            go_upto_region 12 with fail
            have P4 := hid (P3.out.but HI.out (P3.out.b.set 156 HI.out.kind) (But.set g w3 156 (.int .u8 h.kind)))
            generalize w3.setCell _ _ = w4 at *
            clear k6 c156 f156 P3
            obtain ⟨wn, hwn⟩ : ∃ wn : Nat, (wn : Int) = h.way := ⟨h.way.toNat, by have := HWay.out.1; omega⟩
            have HW3 := hid (show wn < 3 by have := HWay.out.2; omega)
            have k8 : w4.cell? ⟨w.heap.size, 8, none⟩ = some (.int .i64 (wn : Int)) := by rw [hwn]; exact HB.cell P4.out.box (i := 8) rfl
            clear hwn
            go_wp2_with fail
            (with_reducible refine (magic_any wn HW3.out w4).mono ?_)
            rintro e w5 ⟨rfl, b5⟩
            have P5 := hid (P4.out.later HI.out b5)
            clear P4 k8 b5
            have hsz := mgs_size HW3.out
            generalize mgs wn = mt at *
            obtain ⟨cc, w6, hcv, b6, hr6⟩ := conv_bytes w5 mt
            rw [hsz] at hcv hr6
            have HR6 := hid hr6
            have P6 := hid (P5.out.later HI.out b6)
            have HL7 := hid (show Calls Tryd.prog 66 #[.slice (some ⟨g, 0, none⟩) 512 512, .int .i64 257, .slice (some ⟨w5.heap.size, 0, none⟩) 8 cc] w6 (fun e w' => e = .returned (.slice (some ⟨g, 0, none⟩) 512 512) ∧ B512 w' g ∧ But g w6 w') from lay_any g 257 _ 8 cc w6 P6.out.b HR6.out (by decide))
            clear hsz hr6 b6
            go_wp2_with fail
            clear hcv
            (with_reducible refine HL7.out.mono ?_)
            rintro e w7 ⟨rfl, hx7, hu7⟩
            have P7 := hid (P6.out.but HI.out hx7 hu7)
            clear hx7 hu7 P6 P5 HR6
            have k15 := HB.cell P7.out.box (i := 15) (v := .bool h.more) rfl
            generalize h.more = bm at k15
            obtain ⟨z, c482, f482⟩ := P7.out.b.at_ (i := 482) (by decide)
            have P8 := hid (P7.out.but HI.out (P7.out.b.set 482 (v := 1) (by decide)) (But.set g w7 482 (.int .u8 1)))
            cases bm with
            | false =>
              clear P8
              have HSl := hid (seal_b512 P7.out.b)
              go_wp2_with fail
              (with_reducible refine HSl.out.mono ?_)
              rintro e w9 ⟨g9, rfl, hg9, hb9, b9⟩
              clear c482 f482 k15
              go_wp2_with fail
              go_ret2
              exact ⟨.inr ⟨g9, rfl, Nat.le_trans P7.out.below.size hg9, hb9⟩, P7.out.below.trans (b9.mono P7.out.below.size)⟩
            | true =>
              go_upto_region 15 with fail
              generalize w7.setCell _ _ = w8 at *
              have HSl := hid (seal_b512 P8.out.b)
              go_wp2_with fail
              (with_reducible refine HSl.out.mono ?_)
              rintro e w9 ⟨g9, rfl, hg9, hb9, b9⟩
              clear c482 f482 k15
              go_wp2_with fail
              go_ret2
              exact ⟨.inr ⟨g9, rfl, Nat.le_trans P8.out.below.size hg9, hb9⟩, P8.out.below.trans (b9.mono P8.out.below.size)⟩
end Go.Proofs.YtbjejgnfnpednaaDoor
