/-
  Which keys are known; decimal numbers.
-/
import Derived.Test.YtbhpedhdhgjkoaaGreatDoorMtSmall
import Derived.Test.YtbhpedhdhgjkoaaGreatDoorKS
set_option linter.unusedVariables false
set_option linter.unusedSimpArgs false
namespace Go.Proofs.YtbhpedhdhgjkoaaGreatDoor
open Go.RowKit Go.Lib
open Px (R2 tl)

theorem tl_inj {a b : ByteArray} (h : tl a = tl b) : a = b := Px.tl_inj h
theorem str_eq (a b : ByteArray) : (a.toList == b.toList) = decide (tl a = tl b) := by
  rw [ByteArray.toList_eq, ByteArray.toList_eq]
  by_cases h : a.data.toList = b.data.toList
  · rw [h]; simp [tl, Px.tl, h]
  · have h2 : (a.data.toList == b.data.toList) = false := by simpa using h
    rw [h2, decide_eq_false (show ¬ tl a = tl b from h)]
theorem beq_dec (x y : List UInt8) : (x == y) = decide (x = y) := by
  by_cases h : x = y
  · simp [h]
  · simp [h]
theorem isKey_or (k : ByteArray) : M.isKey (tl k) = ((k.toList == [112, 97, 116, 104]) || (k.toList == [108, 105, 110, 107, 112, 97, 116, 104]) || (k.toList == [117, 110, 97, 109, 101]) || (k.toList == [103, 110, 97, 109, 101]) || (k.toList == [117, 105, 100]) || (k.toList == [103, 105, 100]) || (k.toList == [115, 105, 122, 101]) || (k.toList == [109, 116, 105, 109, 101]) || (k.toList == [71, 78, 85, 46, 115, 112, 97, 114, 115, 101, 46, 109, 97, 112]) || (k.toList == [71, 78, 85, 46, 115, 112, 97, 114, 115, 101, 46, 115, 105, 122, 101])) := by
  unfold M.isKey M.keys
  rw [ByteArray.toList_eq]
  show decide (tl k ∈ [[112, 97, 116, 104], [108, 105, 110, 107, 112, 97, 116, 104], [117, 110, 97, 109, 101], [103, 110, 97, 109, 101], [117, 105, 100], [103, 105, 100], [115, 105, 122, 101], [109, 116, 105, 109, 101], [71, 78, 85, 46, 115, 112, 97, 114, 115, 101, 46, 109, 97, 112], [71, 78, 85, 46, 115, 112, 97, 114, 115, 101, 46, 115, 105, 122, 101]]) = _
  have e : k.data.toList = tl k := rfl
  rw [e]
  generalize tl k = x
  simp [Bool.or_assoc, beq_dec]
set_option maxRecDepth 100000 in
set_option maxHeartbeats 1000000 in
theorem isKnown_any (k v : ByteArray) (w : World) : Calls Tryz.prog 18 #[.agg #[.string k, .string v]] w fun e w' => e = .returned (.bool (M.isKey (tl k))) ∧ Below w.heap.size w w' := by
  have HK := hid (isKey_or k)
  go_enter Tryz.func18, Tryz.ntmps18
  go_wp2
  all_goals first
    | (exfalso; simp_all; done)
    | (go_ret
       refine ⟨?_, (Below.refl _ w).alloc (Nat.le_refl _) _⟩
       rw [HK.out]
       simp [*])

theorem dec_ok {t : List UInt8} {v : Int} (h : Lib.atoiAll t = .ok v) (most : Int) : M.dec t most = if M.within v 0 most = true ∧ Lib.itoa v = t then some v else none := by
  unfold M.dec; rw [h]
theorem dec_err {t : List UInt8} (h : ∀ v, Lib.atoiAll t ≠ .ok v) (most : Int) : M.dec t most = none := by
  unfold M.dec
  cases hv : Lib.atoiAll t with
  | ok v => exact absurd hv (h v)
  | _ => rfl
set_option maxRecDepth 100000 in
set_option maxHeartbeats 1000000 in
theorem decimal_any (s : ByteArray) (hs : s.size ≤ 1000000) (most : Int) (B : Nat) (w : World) (hB : B ≤ w.heap.size) (ht : Sp.EV B w) :
    Calls Tryz.prog 45 #[.string s, .int .i64 most] w fun e w' => e = .returned (Sp.numV (M.dec (tl s) most)) ∧ Below w.heap.size w w' := by
  have HT := hid ht
  clear ht
  go_enter Tryz.func45, Tryz.ntmps45
  go_wp2_with fail
  (with_reducible refine (Sp.atoi_any s hs B w HT.out).mono ?_)
  rintro e w1 ⟨v, ev, rfl, hb1, v0, v1, h⟩
  have HB1 := hid hb1
  have HT1 := hid (HT.out.on (hb1.mono hB))
  rcases h with ⟨ha, rfl⟩ | ⟨ha, ⟨x, y, rfl⟩, _⟩
  · have HN := hid (dec_ok (t := tl s) ha most)
    clear ha hb1
    cases hv : M.within v 0 most with
    | false =>
      have HN2 := hid (show M.dec (tl s) most = none by rw [HN.out, hv, if_neg (by simp)])
      have HW := hid (within_any v 0 most w1)
      rw [hv] at HW
      clear hv
      go_wp2_with (go_at_call 10; (with_reducible refine HW.out.mono ?_); rintro e w2 ⟨rfl, rfl⟩)
      go_ret2
      exact ⟨Sp.ret_num HN2.out.symm, HB1.out⟩
    | true =>
      have HW := hid (within_any v 0 most w1)
      rw [hv] at HW
      have HI := hid (Sp.itoa_any v v0 v1 B w1 HT1.out)
      by_cases he : Lib.itoa v = tl s
      · have HN2 := hid (show M.dec (tl s) most = some v by rw [HN.out, if_pos ⟨hv, he⟩])
        have es := Sp.str_eq_yes he
        rw [es] at HI
        clear he es hv
        go_wp2_with (first | (go_at_call 10; (with_reducible refine HW.out.mono ?_); rintro e w2 ⟨rfl, rfl⟩) | (go_at_call 26; (with_reducible refine HI.out.mono ?_); rintro e w2 ⟨rfl, hb2⟩))
        go_ret2
        exact ⟨Sp.ret_num HN2.out.symm, HB1.out.trans (hb2.mono HB1.out.size)⟩
      · have HN2 := hid (show M.dec (tl s) most = none by rw [HN.out, if_neg (by intro h; exact he h.2)])
        have HE := hid he
        clear he hv
        generalize hx : (⟨(Lib.itoa v).toArray⟩ : ByteArray) = x at HI
        have d3 : (x.toList == s.toList) = false := by
          rw [beq_eq_false_iff_ne, Sp.tl_eq, Sp.tl_eq, ← hx]; exact HE.out
        go_wp2_with (first | (go_at_call 10; (with_reducible refine HW.out.mono ?_); rintro e w2 ⟨rfl, rfl⟩) | (go_at_call 26; (with_reducible refine HI.out.mono ?_); rintro e w2 ⟨rfl, hb2⟩))
        go_ret2
        exact ⟨Sp.ret_num HN2.out.symm, HB1.out.trans (hb2.mono HB1.out.size)⟩
  · have HN := hid (dec_err (t := tl s) ha most)
    clear ha hb1
    go_wp2
    go_ret2
    exact ⟨Sp.ret_num HN.out.symm, HB1.out⟩
end Go.Proofs.YtbhpedhdhgjkoaaGreatDoor
