/-
  The document's number and Print.
-/
import Derived.Test.YtjpflljmeaihgaaDoorSpNum
import Derived.Test.YtjpflljmeaihgaaDoorSpClass
import Derived.Test.YtjpflljmeaihgaaDoorSpRefExp
import Derived.Lib.MinMax
namespace Go.Proofs.YtjpflljmeaihgaaDoor
open Go.RowKit Go.Lib
attribute [local go_sem ↓] add_plain

/-- A text of bytes. -/
def mkS (l : List UInt8) : ByteArray := ⟨l.toArray⟩
theorem mkS_app (a b : List UInt8) : mkS a ++ mkS b = mkS (a ++ b) := by
  apply tl_inj
  rw [tl_append]
  unfold mkS
  rw [tl_mk, tl_mk, tl_mk]
theorem mkS_size (a : List UInt8) : (mkS a).size = a.length := by unfold mkS; simp [ByteArray.size]
theorem tl_mkS (a : List UInt8) : tl (mkS a) = a := tl_mk a
theorem mkS_comma : (⟨#[44]⟩ : ByteArray) = mkS [44] := rfl
theorem mkS_tl (s : ByteArray) : mkS (tl s) = s := tl_inj (tl_mkS _)

set_option maxRecDepth 100000 in
theorem refNumber_any (x : Int) (h0 : -9223372036854775808 ≤ x) (h1 : x ≤ 9223372036854775807) (w : World) (ht : EV w.heap.size w) :
    Calls Tryd.prog 39 #[.int .i64 x] w fun e w' => e = .returned (.string (mkS (M.numT x))) ∧ Below w.heap.size w w' := by
  have e1 : (max 0 (min x 9999999999999) : Int) = M.clip13 x := by unfold M.clip13; omega
  have HI := hid (itoa_any (M.clip13 x) (by unfold M.clip13; omega) (by unfold M.clip13; omega) w.heap.size w ht)
  have HN : Hid (M.numT x = Lib.itoa (M.clip13 x)) := hid rfl
  generalize M.clip13 x = y at *
  go_enter Tryd.func39, Tryd.ntmps39
  go_wp2_with (go_at_call 38; (with_reducible refine HI.out.mono ?_); rintro e w1 ⟨rfl, hb1⟩)
  go_ret
  exact ⟨by rw [HN.out]; rfl, hb1⟩

set_option maxRecDepth 100000 in
set_option maxHeartbeats 4000000 in
theorem refPrint_any (A : Option Addr) (n c : Nat) (l : List M.Pt) (w : World) (hr : RdP w w.heap.size A n l) (hi : M.i64s l) (hn : n ≤ 3000) (ht : EV w.heap.size w) :
    Calls Tryd.prog 30 #[.slice A n c] w fun e w' => e = .returned (.string (mkS (M.print l))) ∧ Below w.heap.size w w' := by
  have HL := hid hr.len
  have HR := hid (fun (W : World) (hW : Below w.heap.size w W) => hr.below hW)
  have HI := hid hi
  have HT := hid (fun (W : World) (hW : Below w.heap.size w W) => (ht.on hW).up hW.size)
  have HE : Hid ((⟨#[]⟩ : ByteArray) = mkS (M.print (l.take 0))) := hid rfl
  clear hr hi ht
  go_enter Tryd.func30, Tryd.ntmps30
  go_wp2
  go_loopw [3, 4] (fun sv iv wr => ∃ (k : Nat) (S : ByteArray), iv = .int .i64 k ∧ k ≤ n ∧ sv = .string S ∧ Hid (S = mkS (M.print (l.take k))) ∧ Hid (Below w.heap.size w wr)) (fun _ iv _ => n - (RowKit.intOf iv).toNat)
  case atStart => exact ⟨0, _, rfl, Nat.zero_le _, rfl, HE, hid (Below.refl _ _)⟩
  case round =>
    obtain ⟨k, S, rfl, hk, rfl, HS, HB⟩ := hrel
    have hpl := M.print_len (l.take k)
    rw [List.length_take, HL.out] at hpl
    have hS : S.size ≤ 84000 := by rw [HS.out, mkS_size]; omega
    by_cases hlt : k < n
    · obtain ⟨b, off, ⟨p, q⟩, rfl, hb, hp, hc1, hc2⟩ := (HR.out wr HB.out).at_ hlt
      obtain ⟨⟨hp0, hp1⟩, hq0, hq1⟩ := HI.out _ (List.mem_of_getElem? hp)
      dsimp only at hc1 hc2 hp0 hp1 hq0 hq1
      have d1 : decide (k < n) = true := by rw [decide_eq_true_eq]; exact hlt
      obtain ⟨k1, hk1⟩ : ∃ k1, k1 = k + 1 := ⟨_, rfl⟩
      have htk : l.take (k + 1) = l.take k ++ [(p, q)] := by
        obtain ⟨hkl, he⟩ := List.getElem?_eq_some_iff.1 hp
        rw [List.take_succ_eq_append_getElem hkl, he]
      have HPS := hid (M.print_snoc (l.take k) (p, q))
      rw [← htk, ← hk1] at HPS
      have HN1 := hid (fun (W : World) (hW : Below w.heap.size w W) => refNumber_any p hp0 hp1 W (HT.out W hW))
      have HN2 := hid (fun (W : World) (hW : Below w.heap.size w W) => refNumber_any q hq0 hq1 W (HT.out W hW))
      have hn1 : (mkS (M.numT p)).size ≤ 13 := by rw [mkS_size]; exact M.numT_len p
      have hn2 : (mkS (M.numT q)).size ≤ 13 := by rw [mkS_size]; exact M.numT_len q
      have HPT : Hid (M.ptT (p, q) = M.numT p ++ 44 :: M.numT q) := hid rfl
      have C1 := hid (fun (W : World) (hW : Below w.heap.size wr W) => (hW.cell (p := ⟨b, off + k * 2, none⟩) hb).trans hc1)
      have C2 := hid (fun (W : World) (hW : Below w.heap.size wr W) => (hW.cell (p := ⟨b, off + k * 2 + 1, none⟩) hb).trans hc2)
      clear hp hc1 hc2 htk hpl
      by_cases hk0 : k = 0
      case' pos =>
        have HFS := hid (show mkS (M.print (l.take k1)) = S ++ mkS (M.numT p) ++ ⟨#[44]⟩ ++ mkS (M.numT q) by
          rw [HPS.out, if_pos (by rw [hk0]; rfl), HPT.out, HS.out, hk0, show M.print (l.take 0) = [] from rfl, mkS_comma, mkS_app, mkS_app, mkS_app]
          simp)
        have d2 : decide (0 < k) = false := by rw [decide_eq_false_iff_not]; omega
      case' neg =>
        have HFS := hid (show mkS (M.print (l.take k1)) = S ++ ⟨#[44]⟩ ++ mkS (M.numT p) ++ ⟨#[44]⟩ ++ mkS (M.numT q) by
          rw [HPS.out, if_neg (by intro e; have := congrArg List.length e; rw [List.length_take, HL.out, List.length_nil] at this; omega), HPT.out, HS.out, mkS_comma, mkS_app, mkS_app, mkS_app, mkS_app]
          simp)
        have d2 : decide (0 < k) = true := by rw [decide_eq_true_eq]; omega
      all_goals
        clear HPS HPT HS hk0
        go_wp2_with fail
        refine wp_region_class (fun W => Below w.heap.size wr W) (by kernel_rfl) (by kernel_rfl) (below_drew' (Below.refl _ _)) ?_
        repeat
          refine wpQuiet_step (fun K hK => ?_)
          go_simp
          first
            | (refine hK _ ?_; clear hK K)
            | (apply Exists.intro
               refine ⟨fun W hW => ?_, hK _ ?_⟩
               · first
                   | with_reducible rfl
                   | (have x1 := C1.out W hW; have x2 := C2.out W hW; go_simp; done)
                   | (have x1 := C1.out W hW; have x2 := C2.out W hW; go_simp; with_reducible rfl)
                   | (have x1 := C1.out W hW; have x2 := C2.out W hW; go_simp; rw [if_neg (by omega)]; exact ⟨rfl, rfl⟩)
                   | (go_at_call 39; (with_reducible refine (HN1.out W (HB.out.trans hW)).mono ?_); rintro e w' ⟨rfl, hb⟩; exact ⟨rfl, hW.trans (hb.mono (HB.out.trans hW).size)⟩)
                   | (go_at_call 39; (with_reducible refine (HN2.out W (HB.out.trans hW)).mono ?_); rintro e w' ⟨rfl, hb⟩; exact ⟨rfl, hW.trans (hb.mono (HB.out.trans hW).size)⟩)
               clear hK K)
        refine wpQuiet_nil ?_
        intro w2 hb2
        go_wp2_with fail
        go_roundw
        case rel => exact ⟨k1, _, (by subst hk1; first | rfl | go_num), by omega, rfl, hid (by rw [HFS.out]), hid (HB.out.trans hb2)⟩
        case measure => simp [RowKit.intOf] <;> omega
    · obtain rfl : k = n := by omega
      have d1 : decide (k < k) = false := by simp
      rw [List.take_of_length_le (by rw [HL.out]; exact Nat.le_refl _)] at HS
      clear hpl
      go_wp2_with fail
      go_ret
      exact ⟨by rw [HS.out]; rfl, HB.out⟩
end Go.Proofs.YtjpflljmeaihgaaDoor
