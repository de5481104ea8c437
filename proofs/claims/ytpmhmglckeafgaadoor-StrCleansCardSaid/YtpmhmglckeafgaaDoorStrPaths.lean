/-
  The walks of StrPaths and StrCleans.
-/
import Derived.Test.YtpmhmglckeafgaaDoorStrCuts
namespace Go.Proofs.YtpmhmglckeafgaaDoor
open Go.RowKit Go.Shelf

set_option maxRecDepth 100000 in
set_option maxHeartbeats 2000000 in
theorem strPaths_any (s : ByteArray) (A : Option Addr) (n c : Nat) (zs : List Int) (w : World) (hs : s.size ≤ maxLen) (h : BytesIn w A n c zs) :
    Calls Tryd.prog 7 #[.string s, .slice A n c] w fun e w' => e = .returned (.bool true) ∧ Below w.heap.size w w' := by
  unfold maxLen at hs
  obtain ⟨hrd, hnc, _⟩ := h
  have HR := Lib.hid hrd; clear hrd
  by_cases hsz : s.size ≤ 300
  · go_enter Tryd.func7, Tryd.ntmps7
    go_wp2_with fail
    refine (known_any _).mono ?_
    rintro e w1 ⟨rfl, b1⟩
    go_wp2_with fail
    refine (paths_any s (by omega) _).mono ?_
    rintro e w2 ⟨rfl, b2⟩
    have b12 := b1.trans (b2.mono b1.size)
    clear b1 b2
    go_wp2_with fail
    refine (path_any A n c zs _ ((HR.out.below b12).more b12.size) hnc).mono ?_
    rintro e w3 ⟨t1, rfl, ht1, b3⟩
    have b13 := b12.trans (b3.mono b12.size)
    clear b12 b3
    go_wp2_with fail
    refine (paths_any t1 (by omega) _).mono ?_
    rintro e w4 ⟨rfl, b4⟩
    have b14 := b13.trans (b4.mono b13.size)
    clear b13 b4
    go_wp2_with fail
    refine (path_any A n c zs _ ((HR.out.below b14).more b14.size) hnc).mono ?_
    rintro e w5 ⟨t2, rfl, ht2, b5⟩
    have b15 := b14.trans (b5.mono b14.size)
    clear b14 b5
    go_wp2_with fail
    refine (paths_any _ (by rw [ByteArray.size_append]; exact Nat.le_trans (Nat.add_le_add (show (⟨#[47]⟩ : ByteArray).size ≤ 1 by decide) ht2) (by omega)) _).mono ?_
    rintro e w6 ⟨rfl, b6⟩
    have b16 := b15.trans (b6.mono b15.size)
    go_wp2
    go_ret
    exact ⟨rfl, b16⟩
  · have hsz' : 300 < s.size := by omega
    clear hsz
    go_enter Tryd.func7, Tryd.ntmps7
    go_wp2_with (go_at_call 12; refine (known_any _).mono ?_; rintro e w1 ⟨rfl, b1⟩)
    go_ret
    exact ⟨rfl, b1⟩

theorem head_ne (s : ByteArray) (h : 0 < s.size) (hp : [47].isPrefixOf (tl s) = false) : (((s[0]'h).toNat : Int) != 47) = true := by
  rw [head_slash s h, decide_eq_false_iff_not] at hp
  simp; omega

set_option maxRecDepth 100000 in
set_option maxHeartbeats 2000000 in
theorem strCleans_any (A : Option Addr) (n c : Nat) (zs : List Int) (w : World) (h : BytesIn w A n c zs) :
    Calls Tryd.prog 9 #[.slice A n c] w fun e w' => e = .returned (.bool true) ∧ Below w.heap.size w w' := by
  obtain ⟨hrd, hnc, _⟩ := h
  have HR := Lib.hid hrd; clear hrd
  go_enter Tryd.func9, Tryd.ntmps9
  go_wp2_with fail
  refine (path_any A n c zs _ HR.out hnc).mono ?_
  rintro e w1 ⟨p, rfl, hp, b1⟩
  obtain ⟨l, ok, hcl⟩ : ∃ l ok, M.clean (tl p) = (l, ok) := ⟨_, _, rfl⟩
  have C1 : ∀ W, Calls Tryd.prog 23 #[.string p] W fun e w' => e = .returned (.tuple #[.string ⟨l.toArray⟩, .bool ok]) ∧ Below W.heap.size W w' := by
    intro W
    have := clean_any p (by omega) W
    unfold cleanV at this
    rw [hcl] at this
    exact this
  have HC := Lib.hid C1; clear C1
  have HK := Lib.hid known_any
  cases ok with
  | false =>
    obtain rfl := M.clean_no hcl
    clear hcl
    go_wp2_with fail
    refine (HC.out _).mono ?_
    rintro e w2 ⟨rfl, b2⟩
    have b12 := b1.trans (b2.mono b1.size)
    clear b1 b2
    go_wp2_with fail
    refine (HK.out _).mono ?_
    rintro e w3 ⟨rfl, b3⟩
    have b13 := b12.trans (b3.mono b12.size)
    go_wp2
    go_ret
    exact ⟨rfl, b13⟩
  | true =>
    obtain ⟨h1, h2, h3, h4, h5⟩ := M.clean_again hcl
    have hal : l.length ≤ 50 := by
      have h6 := M.join_names_length (tl p)
      rw [← h3] at h6
      have h7 : (tl p).length = p.size := rfl
      omega
    obtain ⟨a, ha⟩ : ∃ a : ByteArray, (⟨l.toArray⟩ : ByteArray) = a := ⟨_, rfl⟩
    have hta : tl a = l := by rw [← ha]; simp [tl]
    have has : a.size ≤ 50 := by have : (tl a).length = a.size := rfl; rw [hta] at this; omega
    have C2 : ∀ W, Calls Tryd.prog 23 #[.string a] W fun e w' => e = .returned (.tuple #[.string a, .bool true]) ∧ Below W.heap.size W w' := by
      intro W
      have := clean_any a (by omega) W
      unfold cleanV at this
      rw [hta, h1, ha] at this
      exact this
    have C1' : ∀ W, Calls Tryd.prog 23 #[.string p] W fun e w' => e = .returned (.tuple #[.string a, .bool true]) ∧ Below W.heap.size W w' := by
      intro W; have := HC.out W; rw [ha] at this; exact this
    have HC1 := Lib.hid C1'
    have HC2 := Lib.hid C2
    have hsp : ∀ W, Calls Tryd.prog 11 #[.string a] W fun e w' => ∃ v, e = .returned v ∧ Texts w' W.heap.size v (M.names (tl p)) ∧ Below W.heap.size W w' := by
      intro W
      have := split_any a (by omega) W
      rw [hta, h2] at this
      exact this
    have HSP := Lib.hid hsp
    have hj : (⟨(M.join (M.names (tl p))).toArray⟩ : ByteArray) = a := by rw [← h3, ha]
    have HJ := Lib.hid hj
    have hh : a.size = 0 ∨ ∃ h : 0 < a.size, (((a[0]'h).toNat : Int) != 47) = true := by
      rcases Nat.eq_zero_or_pos a.size with h0 | h0
      · exact .inl h0
      · exact .inr ⟨h0, head_ne a h0 (by rw [hta]; exact h5)⟩
    have HH := Lib.hid hh
    have hno : ∀ x ∈ M.names (tl p), x ≠ [] ∧ x ≠ [46] ∧ x ≠ [46, 46] := by
      intro x hx
      obtain ⟨g1, g2, _⟩ := M.names_spec hx
      refine ⟨g1, g2, ?_⟩
      rintro rfl
      rw [List.contains_eq_mem, decide_eq_false_iff_not] at h4
      exact h4 hx
    have HNO := Lib.hid hno
    have hsum := names_sum (tl p)
    have h7 : (tl p).length = p.size := rfl
    rw [h7] at hsum
    have HSUM := Lib.hid hsum
    clear hcl h1 h2 h3 h4 h5 hal ha hta C2 C1' HC hsp hj hh hno hsum h7
    go_wp2_with fail
    refine (HC1.out _).mono ?_
    rintro e w2 ⟨rfl, b2⟩
    have b12 := b1.trans (b2.mono b1.size)
    clear b1 b2
    go_wp2_with fail
    refine (HC2.out _).mono ?_
    rintro e w3 ⟨rfl, b3⟩
    have b13 := b12.trans (b3.mono b12.size)
    clear b12 b3
    go_wp2_with fail
    refine (HSP.out _).mono ?_
    rintro e w4 ⟨v, rfl, ht, b4⟩
    have b14 := b13.trans (b4.mono b13.size)
    have HT := Lib.hid ht
    obtain ⟨xs, A2, c2, hx, rfl, hcx, hcell⟩ := ht.reads
    have HX := Lib.hid hx
    have hxl : xs.length ≤ 100 := by have h8 := congrArg List.length hx; rw [List.length_map] at h8; have := HSUM.out; omega
    clear b13 b4 ht hx
    go_wp2_with fail
    go_loop [8] (fun i => ∃ k : Nat, i = .int .i64 k ∧ k ≤ xs.length) (fun i => xs.length - (intOf i).toNat)
    case atStart => exact ⟨0, rfl, Nat.zero_le _⟩
    case round =>
      obtain ⟨k, rfl, hk⟩ := hrel
      by_cases hlt : k < xs.length
      · obtain ⟨b, o, rfl, hcl⟩ := hcell (by omega)
        have hck := hcl k xs[k] (List.getElem?_eq_getElem hlt)
        obtain ⟨e1, e2, e3⟩ := HNO.out (tl xs[k]) (by rw [← HX.out]; exact List.mem_map_of_mem (List.getElem_mem hlt))
        have f1 : xs[k].toList.isEmpty = false := by rw [tl_eq]; simpa using e1
        have f2 : (xs[k].toList == [46]) = false := by rw [tl_eq]; simpa using e2
        have f3 : (xs[k].toList == [46, 46]) = false := by rw [tl_eq]; simpa using e3
        clear hcl hcell e1 e2 e3
        by_cases hk0 : k = 0
        · subst hk0
          simp only [Nat.add_zero] at hck
          go_wp2
          go_round
          case rel => exact ⟨1, by go_num, by omega⟩
          case measure => simp [intOf]; omega
        · have hk1 : 0 < k := by omega
          clear hk0
          go_wp2
          go_round
          case rel => exact ⟨k + 1, by go_num, by omega⟩
          case measure => simp [intOf]; omega
      · obtain rfl : k = xs.length := by omega
        clear hlt
        clear hcell
        go_wp2_with fail
        refine (HK.out _).mono ?_
        rintro e w5 ⟨rfl, b5⟩
        have b15 := b14.trans (b5.mono b14.size)
        have J := join_any (.slice A2 xs.length c2) (M.names (tl p)) (by have := HSUM.out; omega) w5 (HT.out.below b5).reads
        rw [HJ.out] at J
        have HJJ := Lib.hid J
        clear J b14 b5
        rcases HH.out with h0 | ⟨h0, he⟩
        · obtain rfl : a = ⟨#[]⟩ := WideShapes.bytes_inj (List.eq_nil_of_length_eq_zero h0)
          clear h0 HH
          go_wp2_with fail
          refine HJJ.out.mono ?_
          rintro e w6 ⟨rfl, rfl⟩
          go_wp2
          go_ret
          exact ⟨ret_bool (by simp), b15⟩
        · clear HH
          go_wp2_with fail
          refine HJJ.out.mono ?_
          rintro e w6 ⟨rfl, rfl⟩
          go_wp2
          all_goals (go_ret; exact ⟨ret_bool (by simp), b15⟩)
end Go.Proofs.YtpmhmglckeafgaaDoor
