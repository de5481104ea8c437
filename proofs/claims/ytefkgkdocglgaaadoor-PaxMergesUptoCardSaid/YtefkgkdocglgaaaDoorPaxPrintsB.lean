/-
  The walk of prints.
-/
import Derived.Test.YtefkgkdocglgaaaDoorPaxPrints
import Derived.Test.YtefkgkdocglgaaaDoorPaxSame
import Derived.Deep.RegionHeld3
import Derived.RegionTactic
import Derived.ChangeAlike
namespace Go.Proofs.YtefkgkdocglgaaaDoor
open Go.RowKit Go.Shelf

set_option maxRecDepth 100000 in
set_option maxHeartbeats 4000000 in
theorem prints_any (A : Option Addr) (c : Nat) (l : List R2) (hl : l.length ≤ 1000000) (hsh : Short l) (B : Nat) (w : World) (hB : B ≤ w.heap.size) (ht : TB B w) (h : RdR w w.heap.size A l) :
    Calls Tryd.prog 18 #[.slice A l.length c] w fun e w' => e = .returned (.bool true) ∧ Below w.heap.size w w' := by
  have ht' : TB w.heap.size w := fun w' hb => ht w' (hb.mono hB)
  have HT := Lib.hid ht'
  have HSH := Lib.hid hsh
  have HR := Lib.hid h
  clear ht ht' hsh h
  go_enter Tryd.func18, Tryd.ntmps18
  go_wp2
  go_loopw [3] (fun i wr => ∃ k : Nat, i = .int .i64 k ∧ k ≤ l.length ∧ Below w.heap.size w wr) (fun i _ => l.length - (intOf i).toNat)
  case atStart => exact ⟨0, rfl, Nat.zero_le _, Below.refl _ _⟩
  case round =>
    obtain ⟨k, rfl, hk, hb⟩ := hrel
    have hbs := hb.size
    by_cases hlt : k < l.length
    · obtain ⟨b, off, rfl, hbb, c1, c2⟩ := HR.out.at_ hlt
      have hrs := HSH.out _ (List.getElem_mem hlt)
      obtain ⟨r, hr⟩ : ∃ r, l[k] = r := ⟨_, rfl⟩
      rw [hr] at c1 c2 hrs
      obtain ⟨s, t⟩ := r
      dsimp only at c1 c2 hrs
      clear hr
      have d1 := (hb.cell (p := ⟨b, off + k * 2, none⟩) hbb).trans c1
      have d2 := (hb.cell (p := ⟨b, off + k * 2 + 1, none⟩) hbb).trans c2
      have C1 := fun W => right_any' s t W
      have C2 := fun W => refRight_any' s t hrs W
      obtain ⟨q, hq⟩ : ∃ q, M.right (rc (s, t)) = q := ⟨_, rfl⟩
      rw [hq] at C1 C2
      have HC1 := Lib.hid C1
      have HC2 := Lib.hid C2
      clear C1 C2 hq c1 c2
      have S1 : ∀ (x y : World), (x.cell? ⟨b, off + k * 2, none⟩ = some (.string s) ∧ x.cell? ⟨b, off + k * 2 + 1, none⟩ = some (.string t) ∧ Below w.heap.size w x) → Below x.heap.size x y →
          y.cell? ⟨b, off + k * 2, none⟩ = some (.string s) ∧ y.cell? ⟨b, off + k * 2 + 1, none⟩ = some (.string t) ∧ Below w.heap.size w y := by
        rintro x y ⟨h1, h2, h3⟩ hxy
        have hx := h3.size
        exact ⟨(hxy.cell (p := ⟨b, off + k * 2, none⟩) (by show b < _; omega)).trans h1, (hxy.cell (p := ⟨b, off + k * 2 + 1, none⟩) (by show b < _; omega)).trans h2, h3.trans (hxy.mono hx)⟩
      have HS1 := Lib.hid S1
      clear S1
      by_cases h0 : k = 0
      case' pos =>
        subst h0
        simp only [Nat.zero_mul, Nat.add_zero] at d1 d2 HS1
        have g1 : (0 : Int) < (l.length : Int) := by omega
      case' neg =>
        have g1 : 0 < k := by omega
        have g2 : (k : Int) < (l.length : Int) := by omega
        clear h0
      case pos =>
        go_wp2_with fail
        go_region_held3 (fun w' => w'.cell? ⟨b, off, none⟩ = some (.string s) ∧ w'.cell? ⟨b, off + 1, none⟩ = some (.string t) ∧ Below w.heap.size w w')
          (first
            | exact ⟨d1, d2, below_drew' hb⟩
            | exact HS1.out _ _ ⟨d1, d2, below_drew' hb⟩ hb1
            | exact HS1.out _ _ (by assumption) hb1)
          (first
            | (go_at_call 25; refine (HC1.out _).mono ?_; rintro e w' ⟨rfl, hb1⟩)
            | (go_at_call 31; refine (HC2.out _).mono ?_; rintro e w' ⟨rfl, hb1⟩))
        all_goals
          have hbz : Below w.heap.size w w' := (show _ ∧ _ ∧ Below w.heap.size w w' by assumption).2.2
          go_wp2
          go_roundw
          case rel => exact ⟨_, (show Value.int .i64 _ = Value.int .i64 ((_ + 1 : Nat) : Int) by go_num), by omega, hbz⟩
          case measure => simp [intOf]; omega
      case neg =>
        go_wp2_with fail
        go_region_held3 (fun w' => w'.cell? ⟨b, off + k * 2, none⟩ = some (.string s) ∧ w'.cell? ⟨b, off + k * 2 + 1, none⟩ = some (.string t) ∧ Below w.heap.size w w')
          (first
            | exact ⟨d1, d2, below_drew' hb⟩
            | exact HS1.out _ _ ⟨d1, d2, below_drew' hb⟩ hb1
            | exact HS1.out _ _ (by assumption) hb1)
          (first
            | (go_at_call 25; refine (HC1.out _).mono ?_; rintro e w' ⟨rfl, hb1⟩)
            | (go_at_call 31; refine (HC2.out _).mono ?_; rintro e w' ⟨rfl, hb1⟩))
        all_goals
          have hbz : Below w.heap.size w w' := (show _ ∧ _ ∧ Below w.heap.size w w' by assumption).2.2
          go_wp2
          go_roundw
          case rel => exact ⟨_, (show Value.int .i64 _ = Value.int .i64 ((_ + 1 : Nat) : Int) by go_num), by omega, hbz⟩
          case measure => simp [intOf]; omega
    · obtain rfl : k = l.length := by omega
      have hE := printE_lt (rcs l)
      obtain ⟨E, hEe⟩ : ∃ E, M.printE (rcs l) = E := ⟨_, rfl⟩
      have HE := Lib.hid hEe
      rw [hEe] at hE
      have D1 := Lib.hid (print_any A c l hl HSH.out w.heap.size wr hbs (HT.out.on hb) ((HR.out.below hb).more hbs))
      clear hlt hEe
      go_wp2_with fail
      refine D1.out.mono ?_
      rintro e w1 h1
      obtain ⟨A1, c1, P1, rfl, hP1, hr1, hc1, hm1, ho1, hb1⟩ := h1.out (z := E) (by rw [HE.out])
      have b1 := hb.trans (hb1.mono hbs)
      have D2 := Lib.hid (refPrint_any A c l hl HSH.out w.heap.size w1 b1.size (HT.out.on b1) ((HR.out.below b1).more b1.size))
      have HR1 := Lib.hid hr1
      clear h1 hr1 ho1 hb1 D1
      go_wp2_with fail
      refine D2.out.mono ?_
      rintro e w2 h2
      obtain ⟨A2, c2, P2, rfl, hP2, hr2, hc2, hm2, ho2, hb2⟩ := h2.out (z := E) (by rw [HE.out])
      have b2 := b1.trans (hb2.mono b1.size)
      obtain rfl : P2 = P1 := by rw [hP1.out, hP2.out]
      have t1 := run_text (HR1.out.below hb2) c1
      have t2 := run_text hr2 c2
      clear h2 hr2 ho2 hb2 D2 hP1 hP2
      go_wp2
      go_ret
      exact ⟨rfl, b2⟩
end Go.Proofs.YtefkgkdocglgaaaDoor
