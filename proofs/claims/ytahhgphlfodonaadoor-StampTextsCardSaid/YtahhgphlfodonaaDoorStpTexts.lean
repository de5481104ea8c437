/-
  What is printed ends with no nought behind a point: the walk.
-/
import Derived.Test.YtahhgphlfodonaaDoorStpTextsM
import Derived.Test.YtahhgphlfodonaaDoorStpKnown
import Derived.Tactics
namespace Go.Proofs.YtahhgphlfodonaaDoor
open Go.RowKit Go.Shelf

theorem byte_ne {c d : UInt8} (h : c ≠ d) : ((c.toNat : Int) == (d.toNat : Int)) = false := by
  rw [beq_eq_false_iff_ne]
  intro e
  exact h (UInt8.toNat_inj.1 (by omega))
theorem byte_bne {c d : UInt8} (h : c ≠ d) : ((c.toNat : Int) != (d.toNat : Int)) = true := by
  rw [bne, byte_ne h]; rfl
theorem not_pt {s : ByteArray} {j : Nat} (h : j < s.size) (hp : ∀ c, (tl s)[j]? = some c → M.isPt c = false) : (((s[j]'h).toNat : Int) == 46) = false := by
  have hp := hp (s[j]'h) (List.getElem?_eq_getElem (l := tl s) h)
  refine byte_ne (d := 46) ?_
  unfold M.isPt at hp
  simpa using hp

set_option maxRecDepth 100000 in
set_option maxHeartbeats 4000000 in
theorem stampTexts_any (S n : Int) (B : Nat) (w : World) (hS : -32768 ≤ S ∧ S ≤ 32767) (hn : 0 ≤ n ∧ n ≤ 4294967295) (hB : B ≤ w.heap.size) (ht : TB B w) :
    Calls Tryd.prog 4 #[.int .i16 S, .int .u32 n] w fun e w' => e = .returned (.bool true) ∧ Below w.heap.size w w' := by
  obtain ⟨hS1, hS2⟩ := hS
  obtain ⟨hn1, hn2⟩ := hn
  have hm1 : 0 ≤ n % 1000000000 := by omega
  have hm2 : n % 1000000000 ≤ 999999999 := by omega
  obtain ⟨N, hN⟩ : ∃ N, n % 1000000000 = N := ⟨_, rfl⟩
  rw [hN] at hm1 hm2
  have hok : M.Ok (S, N) := ⟨by show -999999999999999 ≤ S; omega, by show S ≤ 999999999999999; omega, hm1, hm2⟩
  have C1 := fun W h1 h2 => print_any S N w.heap.size W h1 h2
  rw [M.norm_of hok] at C1
  have hlen := M.pr_len hok
  unfold TextIs at C1
  have HT := Lib.hid (ht.up hB)
  have HK := Lib.hid (fun W h1 h2 => known_any w.heap.size W h1 h2)
  rcases Int.lt_or_eq_of_le hm1 with hpos | hzero
  · obtain ⟨f, g, c, hf, hno, hg, hlast, hc48, hc46⟩ := M.pr_point hok (show N ≠ 0 by omega)
    obtain ⟨s, hs⟩ : ∃ s : ByteArray, s = ⟨(M.pr (S, N)).toArray⟩ := ⟨_, rfl⟩
    have hts : tl s = M.pr (S, N) := by rw [hs]; rfl
    rw [← hs] at C1
    rw [← hts] at hf hlast hlen
    rw [tl_len] at hlen
    have hsz : s.size = f.length + 1 + g.length := by
      rw [← tl_len, hf, List.length_append, List.length_cons]; omega
    have hL1 : s.size - 1 < s.size := by omega
    have hlb : s[s.size - 1]'hL1 = c := by
      rw [List.getLast?_eq_getElem?, List.getElem?_eq_getElem (by rw [tl_len]; omega)] at hlast
      injection hlast
    have hpt : s[f.length]'(by omega) = 46 := by
      have : (tl s)[f.length]'(by rw [tl_len]; omega) = 46 := by
        simp only [hf]
        rw [List.getElem_append_right (Nat.le_refl _)]
        simp
      exact this
    have hnp : ∀ j (h : j < f.length), (((s[j]'(by omega)).toNat : Int) == 46) = false := fun j h => by
      refine not_pt (by omega) fun x hx => ?_
      rw [hf, List.getElem?_append_left h] at hx
      exact hno _ (List.mem_of_getElem? hx)
    obtain ⟨L, hL⟩ : ∃ L, L = s.size - 1 := ⟨_, rfl⟩
    have hLs : L < s.size := by omega
    have hlb2 : s[L]'hLs = c := by subst hL; exact hlb
    have l1 : (((s[L]'hLs).toNat : Int) != 48) = true := by
      rw [hlb2]; exact byte_bne hc48
    have l2 : (((s[L]'hLs).toNat : Int) != 46) = true := by
      rw [hlb2]; exact byte_bne hc46
    have l3 : (s.size : Int) - 1 = (L : Int) := by omega
    have l4 : IntKind.i64.wrap (L : Int) = L := by
      rw [IntKind.wrap_i64]
      omega
    have hz2 : (N != 0) = true := by simp; omega
    obtain ⟨K0, hK0⟩ : ∃ K0, K0 = f.length := ⟨_, rfl⟩
    have hKs : K0 < s.size := by omega
    have p1 : (((s[K0]'hKs).toNat : Int) == 46) = true := by
      have : s[K0]'hKs = 46 := by subst hK0; exact hpt
      rw [this]; rfl
    have p2 : (s.size : Int) - (K0 : Int) ≤ 10 := by omega
    have hnp2 : ∀ j (_ : j < K0) (h2 : j < s.size), (((s[j]'h2).toNat : Int) == 46) = false := fun j h _ => hnp j (by omega)
    have hs26 : s.size ≤ 26 := hlen.2
    have H1 := Lib.hid C1
    have HNP := Lib.hid hnp2
    clear C1 ht hs hts hf hlast hlen hno hg hlb hlb2 hpt hnp hnp2 hsz hL1 hL hK0 hc48 hc46 hok
    go_enter Tryd.func4, Tryd.ntmps4
    go_wp2_with fail
    refine (H1.out w (Nat.le_refl _) HT.out).mono ?_
    rintro e w1 ⟨rfl, hb1⟩
    go_wp2_with fail
    go_loop [6] (fun v => ∃ k : Nat, v = .int .i64 k ∧ k ≤ K0) (fun v => K0 - (intOf v).toNat)
    case atStart => exact ⟨0, rfl, Nat.zero_le _⟩
    case round =>
      obtain ⟨k, rfl, hk⟩ := hrel
      by_cases hlt : k < K0
      · have hks : k < s.size := by omega
        have hq := HNP.out k hlt hks
        go_wp2
        go_round
        case rel => exact ⟨k + 1, by go_num, by omega⟩
        case measure => simp [intOf]; omega
      · obtain rfl : k = K0 := by omega
        clear hlt hk
        go_wp2_with (go_at_call 11; refine (HK.out _ hb1.size (HT.out.on hb1)).mono ?_; rintro e w2 ⟨rfl, hb2⟩)
        go_ret
        exact ⟨rfl, hb1.trans (hb2.mono hb1.size)⟩
  · subst hzero
    have hno := M.pr_whole hok rfl
    obtain ⟨s, hs⟩ : ∃ s : ByteArray, s = ⟨(M.pr (S, 0)).toArray⟩ := ⟨_, rfl⟩
    have hts : tl s = M.pr (S, 0) := by rw [hs]; rfl
    rw [← hs] at C1
    rw [← hts] at hno hlen
    rw [tl_len] at hlen
    have hnp : ∀ j (h : j < s.size), (((s[j]'h).toNat : Int) == 46) = false := fun j h => not_pt h fun x hx => hno _ (List.mem_of_getElem? hx)
    have H1 := Lib.hid C1
    have HNP := Lib.hid hnp
    clear C1 ht hs hts hno hnp hok
    go_enter Tryd.func4, Tryd.ntmps4
    go_wp2_with fail
    refine (H1.out w (Nat.le_refl _) HT.out).mono ?_
    rintro e w1 ⟨rfl, hb1⟩
    go_wp2_with fail
    go_loop [6] (fun v => ∃ k : Nat, v = .int .i64 k ∧ k ≤ s.size) (fun v => s.size - (intOf v).toNat)
    case atStart => exact ⟨0, rfl, Nat.zero_le _⟩
    case round =>
      obtain ⟨k, rfl, hk⟩ := hrel
      by_cases hlt : k < s.size
      · have hq := HNP.out k hlt
        go_wp2
        go_round
        case rel => exact ⟨k + 1, by go_num, by omega⟩
        case measure => simp [intOf]; omega
      · obtain rfl : k = s.size := by omega
        clear hlt hk
        go_wp2_with (go_at_call 11; refine (HK.out _ hb1.size (HT.out.on hb1)).mono ?_; rintro e w2 ⟨rfl, hb2⟩)
        go_ret
        exact ⟨rfl, hb1.trans (hb2.mono hb1.size)⟩
end Go.Proofs.YtahhgphlfodonaaDoor
