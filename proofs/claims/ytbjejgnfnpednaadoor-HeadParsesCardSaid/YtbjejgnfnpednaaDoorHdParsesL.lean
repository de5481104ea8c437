/-
  HeadParses.
-/
import Derived.Test.YtbjejgnfnpednaaDoorHdBent
import Derived.Test.YtbjejgnfnpednaaDoorHdParseR
import Derived.Test.YtbjejgnfnpednaaDoorHdLaw
import Derived.Test.YtbjejgnfnpednaaDoorHdSame
namespace Go.Proofs.YtbjejgnfnpednaaDoor
open Go.RowKit Go.Lib
namespace M
theorem hparse_n (zs : List Int) : 0 ≤ (hparse zs).1 ∧ (hparse zs).1 ≤ 65535 := by
  unfold hparse
  split
  · decide
  · split
    · decide
    · split
      · decide
      · split
        · decide
        · split
          · decide
          · split
            · decide
            · split
              · split
                · decide
                · exact (by decide : (0 : Int) ≤ 0 ∧ (0 : Int) ≤ 65535)
              · exact (by decide : (0 : Int) ≤ 0 ∧ (0 : Int) ≤ 65535)
theorem hparse_few (zs : List Int) : (hparse zs).2.parts.length ≤ 1000 := by
  unfold hparse
  split
  · exact Nat.zero_le _
  · split
    · exact Nat.zero_le _
    · split
      · exact Nat.zero_le _
      · split
        · exact Nat.zero_le _
        · split
          · exact Nat.zero_le _
          · split
            · exact Nat.zero_le _
            · split
              · have h4 := parts_le zs 4 386
                split
                · exact Nat.zero_le _
                · rename_i hp
                  rw [hp] at h4
                  exact Nat.le_trans h4 (by decide)
              · exact Nat.zero_le _
end M

set_option maxRecDepth 100000 in
set_option maxHeartbeats 2000000 in
theorem lawParses_any (A : Option Addr) (n c : Nat) (zs : List Int) (w : World) (hr : Rd w w.heap.size A n zs) (hc : n ≤ c) (hcm : c ≤ maxLen) (hs : n ≤ 65536) (hmg : MG w) :
    Calls Tryd.prog 16 #[.slice A n c] w fun e w' => e = .returned (.bool true) ∧ Below w.heap.size w w' := by
  have hst := store_new
  have H1 := hid (hparse_any A n c zs w hr hc hcm hs hmg)
  have H2 := hid (fun (W : World) (hW : Below w.heap.size w W) => refParse_any A n c zs W ((hr.below hW).more hW.size) hc hcm hs)
  have H3 := hid (fun (W : World) (hW : Below w.heap.size w W) => way_any A n c zs W w.heap.size (hr.below hW) hc hcm (hmg.later hW))
  have H4 := hid (fun (W : World) (hW : Below w.heap.size w W) => refWay_any A n c zs W ((hr.below hW).more hW.size) hc hcm)
  have HFew := hid (M.hparse_few zs)
  have HNb := hid (M.hparse_n zs)
  clear hr hc hcm hs hmg
  have EW := hid (show IntKind.i64.wrap (M.hparse zs).1 = (M.hparse zs).1 from IntWalk.i64_in _ (by have := HNb.out; omega))
  go_enter Tryd.func16, Tryd.ntmps16
  go_wp2_with fail
  refine H1.out.mono ?_
  rintro e w1 ⟨pv, rfl, hp1, b1⟩
  have P1i := PartsIs.in_ hp1
  obtain ⟨A1, c1, rfl, _, _⟩ := hp1
  have HP1 := hid P1i
  clear P1i H1
  unfold RefParseIs at H2
  generalize M.hparse zs = r at *
  obtain ⟨en, h⟩ := r
  dsimp only at *
  have bA : Below w1.heap.size w1 (w1.alloc (.cells (hcells h (.slice A1 h.parts.length c1)) 25)) := (Below.refl _ _).alloc (Nat.le_refl _) _
  have B2 := hid (b1.trans (bA.mono b1.size))
  have X2 := hid (HB.new w1 h (.slice A1 h.parts.length c1))
  have P2 := hid (PartsB.mono (PartsB.below HP1.out bA) bA.size)
  clear b1 bA HP1
  go_upto_region 2 with fail
  generalize w1.alloc _ = w2 at *
  go_wp2_with fail
  refine (H2.out w2 B2.out).mono ?_
  rintro e w3 ⟨A3, c3, rfl, hp3, b3⟩
  have bA : Below w3.heap.size w3 (w3.alloc (.cells (hcells h (.slice A3 h.parts.length c3)) 25)) := (Below.refl _ _).alloc (Nat.le_refl _) _
  have B3 := hid (B2.out.trans (b3.mono B2.out.size))
  have B4 := hid (B3.out.trans (bA.mono B3.out.size))
  have X4 := hid (HB.below (HB.below X2.out b3 (HB.lt X2.out)) bA (HB.lt (HB.below X2.out b3 (HB.lt X2.out))))
  have Y4 := hid (HB.new w3 h (.slice A3 h.parts.length c3))
  have P4 := hid (PartsB.mono (PartsB.below (PartsB.mono (PartsB.below P2.out b3) b3.size) bA) bA.size)
  have R4 := hid (PartsB.mono (PartsB.below hp3 bA) bA.size)
  clear b3 bA hp3 H2 X2 P2 B2 B3
  go_upto_region 3 with fail
  generalize w3.alloc _ = w4 at *
  go_wp2_with fail
  (with_reducible refine (H3.out w4 B4.out).mono ?_)
  rintro e w5 ⟨rfl, rfl⟩
  go_wp2_with fail
  (with_reducible refine (H4.out w4 B4.out).mono ?_)
  rintro e w5 ⟨rfl, b5⟩
  have B5 := hid (B4.out.trans (b5.mono B4.out.size))
  have X5 := hid (HB.below X4.out b5 (HB.lt X4.out))
  have Y5 := hid (HB.below Y4.out b5 (HB.lt Y4.out))
  have P5 := hid (PartsB.mono (PartsB.below P4.out b5) b5.size)
  have R5 := hid (PartsB.mono (PartsB.below R4.out b5) b5.size)
  clear b5 H3 H4 X4 Y4 P4 R4 B4
  generalize wayN zs = wn at *
  generalize (M.way zs).isSome = wo at *
  go_wp2_with (first
    | (refine wpList_load_row rfl 25 (.tmp 3) rfl w1.heap.size (by rfl) 25 (hcells h (.slice A1 h.parts.length c1)) (0, 0) _ X5.out Tryd.underlying25 rfl hdr_size ?_)
    | (refine wpList_load_row rfl 25 (.tmp 5) rfl w3.heap.size (by rfl) 25 (hcells h (.slice A3 h.parts.length c3)) (0, 0) _ Y5.out Tryd.underlying25 rfl hdr_size ?_))
  (with_reducible refine (same_yes h _ _ _ P5.out R5.out HFew.out).mono ?_)
  rintro e w6 ⟨rfl, b6⟩
  have ew := EW.out
  go_wp2_with fail
  go_ret
  exact ⟨rfl, B5.out.trans (b6.mono B5.out.size)⟩

set_option maxRecDepth 100000 in
set_option maxHeartbeats 2000000 in
theorem headParses_any (A : Option Addr) (n c : Nat) (zs : List Int) (A1 : Option Addr) (n1 c1 : Nat) (cs : List Int) (A2 : Option Addr) (n2 c2 : Nat) (ds : List Int) (seal_ : Bool) (k : Int) (w : World)
    (hr : Rd w w.heap.size A n zs) (hc : n ≤ c) (hcm : c ≤ maxLen) (hr1 : Rd w w.heap.size A1 n1 cs) (hc1 : n1 ≤ c1) (hcm1 : c1 ≤ maxLen) (hr2 : Rd w w.heap.size A2 n2 ds) (hc2 : n2 ≤ c2) (hcm2 : c2 ≤ maxLen) (hmg : MG w) :
    Calls Tryd.prog 5 #[.slice A n c, .slice A1 n1 c1, .slice A2 n2 c2, .bool seal_, .int .u8 k] w fun e w' => e = .returned (.bool true) ∧ Below w.heap.size w w' := by
  have HMG := hid (fun (W : World) (hW : Below w.heap.size w W) => hmg.later hW)
  have HBt := hid (fun (W : World) (hW : Below w.heap.size w W) => bent_any A1 n1 c1 cs A2 n2 c2 ds seal_ W ((hr1.below hW).more hW.size) hc1 hcm1 ((hr2.below hW).more hW.size) hc2 hcm2)
  have HPa := hid (fun (hn : n ≤ 600) (W : World) (hW : Below w.heap.size w W) => lawParses_any A n c zs W ((hr.below hW).more hW.size) hc hcm (by omega) (HMG.out W hW))
  clear hr hc hcm hr1 hc1 hcm1 hr2 hc2 hcm2 hmg
  by_cases h600 : n ≤ 600
  case neg =>
    go_enter Tryd.func5, Tryd.ntmps5
    go_wp2_with fail
    (with_reducible refine (lawKnown_any _ (HMG.out _ (Below.refl _ _))).mono ?_)
    rintro e w1 ⟨rfl, b1⟩
    go_wp2
    go_ret
    exact ⟨rfl, b1⟩
  case pos =>
    have HPx := hid (fun (g : Nat) (W : World) (hb : B512 W g) (hm : MG W) => show Calls Tryd.prog 16 #[.slice (some ⟨g, 0, none⟩) 512 512] W (fun e w' => e = .returned (.bool true) ∧ Below W.heap.size W w') by
      obtain ⟨zs, hl, hz, ha⟩ := hb
      have hr := ha.rd hz (B := W.heap.size) ha.lt
      rw [hl] at hr
      exact lawParses_any _ 512 512 zs W hr (Nat.le_refl _) (by decide) (by decide) hm)
    have e6 := h600
    go_enter Tryd.func5, Tryd.ntmps5
    go_wp2_with fail
    (with_reducible refine (lawKnown_any _ (HMG.out _ (Below.refl _ _))).mono ?_)
    rintro e w1 ⟨rfl, b1⟩
    have B1 := hid b1
    clear b1
    go_wp2_with fail
    (with_reducible refine (HPa.out h600 _ B1.out).mono ?_)
    rintro e w2 ⟨rfl, b2⟩
    have B2 := hid (B1.out.trans (b2.mono B1.out.size))
    clear b2 B1 HPa
    go_wp2_with fail
    (with_reducible refine (HBt.out _ B2.out).mono ?_)
    rintro e w3 ⟨g, rfl, hg, hx3, b3⟩
    have X3 := hid hx3
    have B3 := hid (B2.out.trans (b3.mono B2.out.size))
    clear hx3 b3 B2 HBt
    go_wp2_with fail
    (with_reducible refine (HPx.out g _ X3.out (HMG.out _ B3.out)).mono ?_)
    rintro e w4 ⟨rfl, b4⟩
    have B4 := hid (B3.out.trans (b4.mono B3.out.size))
    clear b4 X3 B3
    go_wp2_with fail
    (with_reducible refine (known_any k w4).mono ?_)
    rintro e w5 ⟨rfl, rfl⟩
    go_wp2_with fail
    (with_reducible refine (refKnown_any k w4).mono ?_)
    rintro e w5 ⟨rfl, rfl⟩
    generalize M.known k = kn at *
    go_wp2
    go_ret
    exact ⟨rfl, B4.out⟩
end Go.Proofs.YtbjejgnfnpednaaDoor
