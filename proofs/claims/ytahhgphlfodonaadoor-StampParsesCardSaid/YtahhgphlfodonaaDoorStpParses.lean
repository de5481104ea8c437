/-
  Parse is what the chapter says: the walk.
-/
import Derived.Test.YtahhgphlfodonaaDoorStpParseR
import Derived.Test.YtahhgphlfodonaaDoorStpBack
namespace Go.Proofs.YtahhgphlfodonaaDoor
open Go.RowKit Go.Shelf

set_option maxRecDepth 100000 in
set_option maxHeartbeats 8000000 in
theorem stampParses_any (s : ByteArray) (A : Option Addr) (len c : Nat) (zs : List Int) (w : World) (h : Rd w w.heap.size A len zs) (hl : len ≤ c) (hc : c ≤ maxLen) (ht : TB w.heap.size w) :
    Calls Tryd.prog 5 #[.string s, .slice A len c] w fun e w' => e = .returned (.bool true) ∧ Below w.heap.size w w' := by
  obtain ⟨l, rfl⟩ := rd_bytes h
  obtain rfl : len = l.length := by have := h.len; rw [ints_length] at this; exact this.symm
  have HT := Lib.hid ht
  have HR := Lib.hid h
  have HK := Lib.hid (fun W h1 h2 => known_any w.heap.size W h1 h2)
  have b0 := Below.refl w.heap.size w
  by_cases hlong : 100 < s.size
  · have e1 : decide ((s.size : Int) > 100) = true := by rw [decide_eq_true_eq]; omega
    clear ht h
    go_enter Tryd.func5, Tryd.ntmps5
    go_wp2_with fail
    refine (HK.out _ b0.size (HT.out.on b0)).mono ?_
    rintro e w1 ⟨rfl, hb1⟩
    go_wp2
    go_ret
    exact ⟨rfl, hb1⟩
  have hs6 : s.size ≤ 1000000 := by omega
  have e1 : decide ((s.size : Int) > 100) = false := by rw [decide_eq_false_iff_not]; omega
  have hl2 := M.text_len l
  have HX := Lib.hid (fun W hr => text_any A c l hl hc W hr)
  have C1 := fun W => parse_any s hs6 W
  have C2 := fun W => refParse_any s hs6 W
  have C3 := fun W => parse_any ⟨(M.text l).toArray⟩ (by show (M.text l).length ≤ 1000000; omega) W
  have C4 := fun W => refParse_any ⟨(M.text l).toArray⟩ (by show (M.text l).length ≤ 1000000; omega) W
  have hsz : ((⟨#[45]⟩ : ByteArray) ++ (⟨(M.text l).toArray⟩ : ByteArray)).size ≤ 1000000 := by
    rw [ByteArray.size_append]
    show 1 + (M.text l).length ≤ 1000000
    omega
  have C5 := fun W => parse_any _ hsz W
  have C6 := fun W => refParse_any _ hsz W
  unfold ParseIs at C1 C2 C3 C4 C5 C6
  rw [parseV_eq] at C1 C2 C3 C4 C5 C6
  generalize M.parse (tl s) = o1 at *
  generalize M.parse (tl ⟨(M.text l).toArray⟩) = o2 at *
  generalize M.parse (tl ((⟨#[45]⟩ : ByteArray) ++ (⟨(M.text l).toArray⟩ : ByteArray))) = o3 at *
  generalize o1.isSome = f1 at *
  generalize o2.isSome = f2 at *
  generalize o3.isSome = f3 at *
  unfold tv at C1 C2 C3 C4 C5 C6
  generalize (M.orNone o1).1 = a1 at *
  generalize (M.orNone o1).2 = a2 at *
  generalize (M.orNone o2).1 = c1 at *
  generalize (M.orNone o2).2 = c2 at *
  generalize (M.orNone o3).1 = d1 at *
  generalize (M.orNone o3).2 = d2 at *
  unfold TextIs at HX
  have H1 := Lib.hid C1
  have H2 := Lib.hid C2
  have H3 := Lib.hid C3
  have H4 := Lib.hid C4
  have H5 := Lib.hid C5
  have H6 := Lib.hid C6
  clear C1 C2 C3 C4 C5 C6 ht h hsz hlong
  go_enter Tryd.func5, Tryd.ntmps5
  go_wp2_with fail
  refine (HK.out _ b0.size (HT.out.on b0)).mono ?_
  rintro e wk1 ⟨rfl, hk1⟩
  have bk1 := b0.trans (hk1.mono b0.size)
  clear b0 hk1
  go_wp2_with fail
  refine (H1.out _).mono ?_
  rintro e wk2 ⟨rfl, hk2⟩
  have bk2 := bk1.trans (hk2.mono bk1.size)
  have bk2a := bk2.alloc bk2.size (.cells #[.int .i64 a1, .int .i64 a2] 25)
  have x3 := BoxT.new wk2 (a1, a2)
  dsimp only at x3
  clear bk1 hk2 bk2
  go_wp2_with fail
  refine (H2.out _).mono ?_
  rintro e wk4 ⟨rfl, hk4⟩
  have bk4 := bk2a.trans (hk4.mono bk2a.size)
  have x5 := x3.below hk4 x3.lt
  have bk4a := bk4.alloc bk4.size (.cells #[.int .i64 a1, .int .i64 a2] 25)
  have x6 := x5.alloc (.cells #[.int .i64 a1, .int .i64 a2] 25)
  have x7 := BoxT.new wk4 (a1, a2)
  dsimp only at x7
  clear bk2a hk4 x3 bk4 x5
  go_wp2_with fail
  refine (HX.out _ ((HR.out.below bk4a).more bk4a.size)).mono ?_
  rintro e wk8 ⟨rfl, hk8⟩
  have bk8 := bk4a.trans (hk8.mono bk4a.size)
  have x9 := x6.below hk8 x6.lt
  have x10 := x7.below hk8 x7.lt
  clear bk4a hk8 x6 x7
  go_wp2_with fail
  refine (H3.out _).mono ?_
  rintro e wk11 ⟨rfl, hk11⟩
  have bk11 := bk8.trans (hk11.mono bk8.size)
  have x12 := x9.below hk11 x9.lt
  have x13 := x10.below hk11 x10.lt
  have bk11a := bk11.alloc bk11.size (.cells #[.int .i64 c1, .int .i64 c2] 25)
  have x14 := x12.alloc (.cells #[.int .i64 c1, .int .i64 c2] 25)
  have x15 := x13.alloc (.cells #[.int .i64 c1, .int .i64 c2] 25)
  have x16 := BoxT.new wk11 (c1, c2)
  dsimp only at x16
  clear bk8 hk11 x9 x10 bk11 x12 x13
  go_wp2_with fail
  refine (HX.out _ ((HR.out.below bk11a).more bk11a.size)).mono ?_
  rintro e wk17 ⟨rfl, hk17⟩
  have bk17 := bk11a.trans (hk17.mono bk11a.size)
  have x18 := x14.below hk17 x14.lt
  have x19 := x15.below hk17 x15.lt
  have x20 := x16.below hk17 x16.lt
  clear bk11a hk17 x14 x15 x16
  go_wp2_with fail
  refine (H4.out _).mono ?_
  rintro e wk21 ⟨rfl, hk21⟩
  have bk21 := bk17.trans (hk21.mono bk17.size)
  have x22 := x18.below hk21 x18.lt
  have x23 := x19.below hk21 x19.lt
  have x24 := x20.below hk21 x20.lt
  have bk21a := bk21.alloc bk21.size (.cells #[.int .i64 c1, .int .i64 c2] 25)
  have x25 := x22.alloc (.cells #[.int .i64 c1, .int .i64 c2] 25)
  have x26 := x23.alloc (.cells #[.int .i64 c1, .int .i64 c2] 25)
  have x27 := x24.alloc (.cells #[.int .i64 c1, .int .i64 c2] 25)
  have x28 := BoxT.new wk21 (c1, c2)
  dsimp only at x28
  clear bk17 hk21 x18 x19 x20 bk21 x22 x23 x24
  go_wp2_with fail
  refine (HX.out _ ((HR.out.below bk21a).more bk21a.size)).mono ?_
  rintro e wk29 ⟨rfl, hk29⟩
  have bk29 := bk21a.trans (hk29.mono bk21a.size)
  have x30 := x25.below hk29 x25.lt
  have x31 := x26.below hk29 x26.lt
  have x32 := x27.below hk29 x27.lt
  have x33 := x28.below hk29 x28.lt
  clear bk21a hk29 x25 x26 x27 x28
  go_wp2_with fail
  refine (H5.out _).mono ?_
  rintro e wk34 ⟨rfl, hk34⟩
  have bk34 := bk29.trans (hk34.mono bk29.size)
  have x35 := x30.below hk34 x30.lt
  have x36 := x31.below hk34 x31.lt
  have x37 := x32.below hk34 x32.lt
  have x38 := x33.below hk34 x33.lt
  have bk34a := bk34.alloc bk34.size (.cells #[.int .i64 d1, .int .i64 d2] 25)
  have x39 := x35.alloc (.cells #[.int .i64 d1, .int .i64 d2] 25)
  have x40 := x36.alloc (.cells #[.int .i64 d1, .int .i64 d2] 25)
  have x41 := x37.alloc (.cells #[.int .i64 d1, .int .i64 d2] 25)
  have x42 := x38.alloc (.cells #[.int .i64 d1, .int .i64 d2] 25)
  have x43 := BoxT.new wk34 (d1, d2)
  dsimp only at x43
  clear bk29 hk34 x30 x31 x32 x33 bk34 x35 x36 x37 x38
  go_wp2_with fail
  refine (HX.out _ ((HR.out.below bk34a).more bk34a.size)).mono ?_
  rintro e wk44 ⟨rfl, hk44⟩
  have bk44 := bk34a.trans (hk44.mono bk34a.size)
  have x45 := x39.below hk44 x39.lt
  have x46 := x40.below hk44 x40.lt
  have x47 := x41.below hk44 x41.lt
  have x48 := x42.below hk44 x42.lt
  have x49 := x43.below hk44 x43.lt
  clear bk34a hk44 x39 x40 x41 x42 x43
  go_wp2_with fail
  refine (H6.out _).mono ?_
  rintro e wk50 ⟨rfl, hk50⟩
  have bk50 := bk44.trans (hk50.mono bk44.size)
  have x51 := x45.below hk50 x45.lt
  have x52 := x46.below hk50 x46.lt
  have x53 := x47.below hk50 x47.lt
  have x54 := x48.below hk50 x48.lt
  have x55 := x49.below hk50 x49.lt
  have bk50a := bk50.alloc bk50.size (.cells #[.int .i64 d1, .int .i64 d2] 25)
  have x56 := x51.alloc (.cells #[.int .i64 d1, .int .i64 d2] 25)
  have x57 := x52.alloc (.cells #[.int .i64 d1, .int .i64 d2] 25)
  have x58 := x53.alloc (.cells #[.int .i64 d1, .int .i64 d2] 25)
  have x59 := x54.alloc (.cells #[.int .i64 d1, .int .i64 d2] 25)
  have x60 := x55.alloc (.cells #[.int .i64 d1, .int .i64 d2] 25)
  have x61 := BoxT.new wk50 (d1, d2)
  dsimp only at x61
  clear bk44 hk50 x45 x46 x47 x48 x49 bk50 x51 x52 x53 x54 x55
  obtain ⟨m0, n0⟩ := box_cells x56
  obtain ⟨m1, n1⟩ := box_cells x57
  obtain ⟨m2, n2⟩ := box_cells x58
  obtain ⟨m3, n3⟩ := box_cells x59
  obtain ⟨m4, n4⟩ := box_cells x60
  obtain ⟨m5, n5⟩ := box_cells x61
  clear x56 x57 x58 x59 x60 x61
  clear H1 H2 H3 H4 H5 H6 HX HR HK HT
  go_wp2
  go_ret
  exact ⟨rfl, bk50a⟩
end Go.Proofs.YtahhgphlfodonaaDoor
