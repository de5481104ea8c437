/-
  What is printed is parsed as it was: the walk.
-/
import Derived.Test.YtahhgphlfodonaaDoorStpText
import Derived.Test.YtahhgphlfodonaaDoorStpKnown
namespace Go.Proofs.YtahhgphlfodonaaDoor
open Go.RowKit Go.Shelf

namespace M
theorem frac_lt {t : List UInt8} {n : Nat} (h : frac t = some n) : n < 1000000000 := by
  unfold frac at h
  split at h
  · exact billionths_lt h
  · injection h with h; omega
/-- Where what was read lies. -/
theorem parse_bd {l : List UInt8} {v : Tm} (h : parse l = some v) : 0 ≤ v.2 ∧ v.2 ≤ 999999999 ∧ v.1 ≤ 999999999999999 := by
  unfold parse at h
  split at h
  · cases h
  · rename_i a ha
    split at h
    · cases h
    · rename_i b hb
      have h1 := number_lt ha
      have h2 := frac_lt hb
      injection h with h
      subst h
      unfold sgn opp
      dsimp only
      split
      · split
        · dsimp only; omega
        · dsimp only; omega
      · dsimp only; omega
theorem pr_len' {t : Tm} (h : Ok t) : (pr t).length ≤ 26 := by
  obtain ⟨p1, p2, p3, p4, p5⟩ := sgn_parts h
  have hd : (Lib.decDigits (sgn (below0 t) t).1.toNat).length ≤ 15 := by rw [Lib.decDigits_length]; exact dec_len (by omega) (by omega)
  have hf : (fracText (sgn (below0 t) t).2.toNat).length ≤ 10 := by
    unfold fracText
    split
    · simp
    · rw [List.length_cons]
      have := trim_len (n := (sgn (below0 t) t).2.toNat) (by omega)
      omega
  have hs : (if below0 t = true then ([45] : List UInt8) else []).length ≤ 1 := by split <;> simp
  unfold pr
  rw [List.length_append, List.length_append]
  omega
def orNone (o : Option Tm) : Tm := o.getD (0, 0)
end M
theorem parseV_eq (o : Option M.Tm) : parseV o = .tuple #[tv (M.orNone o), .bool o.isSome] := by
  cases o <;> rfl
theorem box_cells {w : World} {g : Nat} {S n : Int} (h : BoxT w g (S, n)) : w.cell? ⟨g, 0, none⟩ = some (.int .i64 S) ∧ w.cell? ⟨g, 1, none⟩ = some (.int .i64 n) := ⟨h.cell0, h.cell1⟩

set_option maxRecDepth 100000 in
set_option maxHeartbeats 8000000 in
theorem stampBack_any (s n : Int) (A : Option Addr) (len c : Nat) (zs : List Int) (w : World) (hs : -9223372036854775808 ≤ s ∧ s ≤ 9223372036854775807) (hn : 0 ≤ n ∧ n ≤ 4294967295) (h : Rd w w.heap.size A len zs) (hl : len ≤ c) (hc : c ≤ maxLen) (ht : TB w.heap.size w) :
    Calls Tryd.prog 7 #[.int .i64 s, .int .u32 n, .slice A len c] w fun e w' => e = .returned (.bool true) ∧ Below w.heap.size w w' := by
  obtain ⟨hn1, hn2⟩ := hn
  obtain ⟨hs1, hs2⟩ := hs
  obtain ⟨l, rfl⟩ := rd_bytes h
  obtain rfl : len = l.length := by have := h.len; rw [ints_length] at this; exact this.symm
  have hm1 : 0 ≤ n % 1000000000 := by omega
  have hm2 : n % 1000000000 ≤ 999999999 := by omega
  obtain ⟨N, hN⟩ : ∃ N, n % 1000000000 = N := ⟨_, rfl⟩
  rw [hN] at hm1 hm2
  obtain ⟨S, hS⟩ : ∃ S, s.tmod 999999999999999 = S := ⟨_, rfl⟩
  have hS1 : -999999999999998 ≤ S ∧ S ≤ 999999999999998 := by
    have h1 := Int.natAbs_tmod s 999999999999999
    rw [hS] at h1
    have h2 : (999999999999999 : Int).natAbs = 999999999999999 := rfl
    rw [h2] at h1
    omega
  obtain ⟨hS1, hS2⟩ := hS1
  have hok : M.Ok (S, N) := ⟨by show -999999999999999 ≤ S; omega, by show S ≤ 999999999999999; omega, hm1, hm2⟩
  have C1 := fun W h1 h2 => print_any S N w.heap.size W h1 h2
  rw [M.norm_of hok] at C1
  have hl1 := M.pr_len' hok
  have C2 := fun W => parse_any ⟨(M.pr (S, N)).toArray⟩ (by show (M.pr (S, N)).length ≤ 1000000; omega) W
  rw [tl_mk, M.parse_pr hok] at C2
  have C3 := fun W hr => text_any A c l hl hc W hr
  have hl2 := M.text_len l
  have C4 := fun W => parse_any ⟨(M.text l).toArray⟩ (by show (M.text l).length ≤ 1000000; omega) W
  rw [tl_mk] at C4
  have hbd := fun v => M.parse_bd (l := M.text l) (v := v)
  unfold ParseIs at C2 C4
  rw [parseV_eq] at C2 C4
  generalize M.parse (M.text l) = o at *
  rcases hv : M.orNone o with ⟨vS, vN⟩
  rcases hq : M.norm (vS, vN) with ⟨qS, qN⟩
  have C5 := fun W h1 h2 => print_any vS vN w.heap.size W h1 h2
  have hokq := M.norm_ok (vS, vN)
  rw [hq] at C5 hokq
  have hl3 := M.pr_len' hokq
  have C6 := fun W => parse_any ⟨(M.pr (qS, qN)).toArray⟩ (by show (M.pr (qS, qN)).length ≤ 1000000; omega) W
  rw [tl_mk, M.parse_pr hokq] at C6
  unfold ParseIs at C6
  rw [parseV_eq] at C6
  rw [hv] at C4
  unfold tv M.orNone at C2 C6
  unfold tv at C4
  unfold TextIs at C1 C3 C5
  simp only [Option.getD_some, Option.isSome_some] at C2 C6
  dsimp only at C4
  -- what the last test asks
  have hlast : o.isSome = true → (qS = vS ∧ qN = vN) ∨ (qS ≠ vS ∧ vS < -999999999999999) := by
    intro hi
    obtain ⟨v, rfl⟩ := Option.isSome_iff_exists.1 hi
    obtain ⟨b1, b2, b3⟩ := hbd v rfl
    have hvv : v = (vS, vN) := hv
    subst hvv
    dsimp only at b1 b2 b3
    unfold M.norm at hq
    dsimp only at hq
    simp only [Prod.mk.injEq] at hq
    omega
  have HT := Lib.hid ht
  have HR := Lib.hid h
  have H1 := Lib.hid C1
  have H2 := Lib.hid C2
  have H3 := Lib.hid C3
  have H4 := Lib.hid C4
  have H5 := Lib.hid C5
  have H6 := Lib.hid C6
  have HK := Lib.hid (fun W h1 h2 => known_any w.heap.size W h1 h2)
  clear C1 C2 C3 C4 C5 C6 ht h hbd hv hq hokq hl1 hl2 hl3 hok
  go_enter Tryd.func7, Tryd.ntmps7
  go_wp2_with fail
  have x0 := BoxT.new w (S, N)
  have b0 : Below w.heap.size w (w.alloc (.cells #[.int .i64 S, .int .i64 N] 25)) := (Below.refl _ w).alloc (Nat.le_refl _) _
  dsimp only at x0
  refine (H1.out _ b0.size (HT.out.on b0)).mono ?_
  rintro e w1 ⟨rfl, hb1⟩
  have b1 := b0.trans (hb1.mono b0.size)
  have x1 := x0.below hb1 x0.lt
  clear x0 b0 hb1
  go_wp2_with fail
  refine (H2.out _).mono ?_
  rintro e w2 ⟨rfl, hb2⟩
  have b2 := (b1.trans (hb2.mono b1.size)).alloc (b1.trans (hb2.mono b1.size)).size (.cells #[.int .i64 S, .int .i64 N] 25)
  have x2 := (x1.below hb2 x1.lt).alloc (.cells #[.int .i64 S, .int .i64 N] 25)
  have y2 := BoxT.new w2 (S, N)
  dsimp only at y2
  clear x1 b1 hb2
  go_wp2_with fail
  refine (H3.out _ ((HR.out.below b2).more b2.size)).mono ?_
  rintro e w3 ⟨rfl, hb3⟩
  have b3 := b2.trans (hb3.mono b2.size)
  have x3 := x2.below hb3 x2.lt
  have y3 := y2.below hb3 y2.lt
  clear x2 y2 b2 hb3
  go_wp2_with fail
  refine (H4.out _).mono ?_
  rintro e w4 ⟨rfl, hb4⟩
  have b4 := (b3.trans (hb4.mono b3.size)).alloc (b3.trans (hb4.mono b3.size)).size (.cells #[.int .i64 vS, .int .i64 vN] 25)
  have x4 := (x3.below hb4 x3.lt).alloc (.cells #[.int .i64 vS, .int .i64 vN] 25)
  have y4 := (y3.below hb4 y3.lt).alloc (.cells #[.int .i64 vS, .int .i64 vN] 25)
  have z4 := BoxT.new w4 (vS, vN)
  dsimp only at z4
  clear x3 y3 b3 hb4
  go_wp2_with fail
  refine (H5.out _ b4.size (HT.out.on b4)).mono ?_
  rintro e w5 ⟨rfl, hb5⟩
  have b5 := b4.trans (hb5.mono b4.size)
  have x5 := x4.below hb5 x4.lt
  have y5 := y4.below hb5 y4.lt
  have z5 := z4.below hb5 z4.lt
  clear x4 y4 z4 b4 hb5
  go_wp2_with fail
  refine (H6.out _).mono ?_
  rintro e w6 ⟨rfl, hb6⟩
  have b6 := (b5.trans (hb6.mono b5.size)).alloc (b5.trans (hb6.mono b5.size)).size (.cells #[.int .i64 qS, .int .i64 qN] 25)
  have x6 := (x5.below hb6 x5.lt).alloc (.cells #[.int .i64 qS, .int .i64 qN] 25)
  have y6 := (y5.below hb6 y5.lt).alloc (.cells #[.int .i64 qS, .int .i64 qN] 25)
  have z6 := (z5.below hb6 z5.lt).alloc (.cells #[.int .i64 qS, .int .i64 qN] 25)
  have u6 := BoxT.new w6 (qS, qN)
  dsimp only at u6
  clear x5 y5 z5 b5 hb6
  go_wp2_with fail
  refine (HK.out _ b6.size (HT.out.on b6)).mono ?_
  rintro e w7 ⟨rfl, hb7⟩
  have b7 := b6.trans (hb7.mono b6.size)
  obtain ⟨c0, c1⟩ := box_cells (x6.below hb7 x6.lt)
  obtain ⟨d0, d1⟩ := box_cells (y6.below hb7 y6.lt)
  obtain ⟨f0, f1⟩ := box_cells (z6.below hb7 z6.lt)
  obtain ⟨g0, g1⟩ := box_cells (u6.below hb7 u6.lt)
  clear x6 y6 z6 u6 b6 hb7 H1 H2 H3 H4 H5 H6 HK HR HT
  cases hi : o.isSome with
  | false =>
    clear hlast
    go_wp2
    go_ret
    exact ⟨rfl, b7⟩
  | true =>
    rcases hlast hi with ⟨k1, k2⟩ | ⟨k1, k2⟩
    · subst k1
      subst k2
      clear hlast
      go_wp2
      go_ret
      exact ⟨rfl, b7⟩
    · have k3 : (qS == vS) = false := by simpa using k1
      have k4 : decide (vS < -999999999999999) = true := by rw [decide_eq_true_eq]; exact k2
      clear hlast k1
      go_wp2
      go_ret
      exact ⟨rfl, b7⟩
end Go.Proofs.YtahhgphlfodonaaDoor
