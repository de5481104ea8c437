/-
  What is printed is parsed: the header as a whole.
-/
import Derived.Test.YtbjejgnfnpednaaDoorHdBack
namespace Go.Proofs.YtbjejgnfnpednaaDoor
namespace M

theorem hdr_eq {a b : Hdr} (h0 : a.name = b.name) (h1 : a.mode = b.mode) (h2 : a.uid = b.uid) (h3 : a.gid = b.gid) (h4 : a.size = b.size) (h5 : a.mtime = b.mtime) (h6 : a.kind = b.kind) (h7 : a.link = b.link) (h8 : a.way = b.way) (h9 : a.user = b.user) (h10 : a.group = b.group) (h11 : a.major = b.major) (h12 : a.minor = b.minor) (h13 : a.pre = b.pre)
    (h14 : a.parts = b.parts) (h15 : a.more = b.more) (h16 : a.real = b.real) : a = b := by
  cases a
  cases b
  simp_all
theorem sub_in {zs f : List Int} {a b n : Nat} (h : a + f.length ≤ zs.length) (h1 : a ≤ b) (h2 : b + n ≤ a + f.length) : sub (splice zs a f) b n = sub f (b - a) n := by
  unfold sub
  apply List.ext_getElem?
  intro j
  rw [List.getElem?_take, List.getElem?_take]
  split
  · rename_i hj
    rw [List.getElem?_drop, List.getElem?_drop]
    unfold splice
    have hl : (zs.take a).length = a := by rw [List.length_take]; omega
    rw [List.getElem?_append_right (by omega), hl, List.getElem?_append_left (by omega)]
    congr 1
    omega
  · rfl
theorem byt_sub {xs ys : List Int} {i : Nat} (h : sub xs i 1 = sub ys i 1) : byt xs i = byt ys i := by
  have e : ∀ l : List Int, byt l i = (sub l i 1).getD 0 0 := by
    intro l
    unfold byt sub
    rw [List.getD_eq_getElem?_getD, List.getD_eq_getElem?_getD, List.getElem?_take, if_pos (by decide), List.getElem?_drop]
    rfl
  rw [e xs, e ys, h]
theorem putT_bd {zs z : List Int} {a m : Nat} {s : ByteArray} (h : putT zs a m s = some z) (hb : ∀ v ∈ zs, 0 ≤ v ∧ v ≤ 255) : ∀ v ∈ z, 0 ≤ v ∧ v ≤ 255 := by
  obtain ⟨l, _, rfl, _⟩ := putT_some h
  exact splice_bd hb (S.ints_bd l)
theorem putN_bd {zs z : List Int} {a m : Nat} {there : Bool} {lo up x : Int} (h : putN zs a m there lo up x = some z) (hb : ∀ v ∈ zs, 0 ≤ v ∧ v ≤ 255) : ∀ v ∈ z, 0 ≤ v ∧ v ≤ 255 := by
  unfold putN at h
  split at h
  · split at h
    · injection h with h; rw [← h]; exact splice_bd hb (putR_bd _ _)
    · cases h
  · split at h
    · injection h with h; rw [← h]; exact hb
    · cases h

section
variable {h : Hdr} {zs : List Int}
theorem Steps.way_ (s : Steps h zs) : 0 ≤ h.way ∧ h.way < 3 ∧ ((h.way.toNat : Nat) : Int) = h.way := by
  have hw := s.isway
  unfold isWay at hw
  rw [Bool.and_eq_true, decide_eq_true_eq, decide_eq_true_eq] at hw
  exact ⟨hw.1, hw.2, by omega⟩
/-- Where the kind is a sparse one's, the way is Gnu's; where it is none, there are no parts. -/
theorem Steps.sparse (s : Steps h zs) : (h.kind = 83 ∧ h.way = 2) ∨ (h.kind ≠ 83 ∧ h.parts = [] ∧ h.more = false) := by
  have hm := s.kd.2
  have hf := s.isflat
  by_cases hk : h.kind = 83
  · left
    unfold may at hm
    rw [hk] at hm
    exact ⟨hk, by simpa using hm⟩
  · right
    unfold flat at hf
    rw [show (h.kind == 83) = false by simpa using hk, Bool.false_or, Bool.and_eq_true, decide_eq_true_eq] at hf
    exact ⟨hk, List.eq_nil_of_length_eq_zero hf.1, by simpa using hf.2⟩
theorem Steps.bd (s : Steps h zs) : ∀ v ∈ zs, 0 ≤ v ∧ v ≤ 255 := by
  have b0 : ∀ v ∈ (nils 512).set 156 h.kind, 0 ≤ v ∧ v ≤ 255 := set_bd (nils_bd 512) (known_bd s.kd.1)
  have b5 := putT_bd s.t4 (putT_bd s.t3 (putT_bd s.t2 (putT_bd s.t1 (putT_bd s.t0 b0))))
  have c0 : ∀ v ∈ splice s.z5 257 (magic h.way.toNat), 0 ≤ v ∧ v ≤ 255 := splice_bd b5 (magic_bd _)
  have c8 := putN_bd s.n7 (putN_bd s.n6 (putN_bd s.n5 (putN_bd s.n4 (putN_bd s.n3 (putN_bd s.n2 (putN_bd s.n1 (putN_bd s.n0 c0)))))))
  have cx := putP_bd c8 s.pp
  intro v hv
  rw [s.out] at hv
  refine sld_bd ?_ v hv
  split
  · exact set_bd cx (by decide)
  · exact cx
theorem Steps.right_ (s : Steps h zs) : right zs = true := by
  have b0 : ∀ v ∈ (nils 512).set 156 h.kind, 0 ≤ v ∧ v ≤ 255 := set_bd (nils_bd 512) (known_bd s.kd.1)
  have b5 := putT_bd s.t4 (putT_bd s.t3 (putT_bd s.t2 (putT_bd s.t1 (putT_bd s.t0 b0))))
  have c0 : ∀ v ∈ splice s.z5 257 (magic h.way.toNat), 0 ≤ v ∧ v ≤ 255 := splice_bd b5 (magic_bd _)
  have c8 := putN_bd s.n7 (putN_bd s.n6 (putN_bd s.n5 (putN_bd s.n4 (putN_bd s.n3 (putN_bd s.n2 (putN_bd s.n1 (putN_bd s.n0 c0)))))))
  have cx := putP_bd c8 s.pp
  refine (congrArg right s.out).trans (right_sld ?_)
  split
  · exact set_bd cx (by decide)
  · exact cx
/-- From the block's end down to where the numbers begin. -/
theorem Steps.down (s : Steps h zs) {b n : Nat} (h1 : b + n ≤ 148 ∨ 156 ≤ b) (h2 : b + n ≤ 386) (d0 : b + n ≤ 100 ∨ 108 ≤ b) (d1 : b + n ≤ 108 ∨ 116 ≤ b) (d2 : b + n ≤ 116 ∨ 124 ≤ b) (d3 : b + n ≤ 124 ∨ 136 ≤ b) (d4 : b + n ≤ 136 ∨ 148 ≤ b) (d5 : b + n ≤ 329 ∨ 337 ≤ b) (d6 : b + n ≤ 337 ∨ 345 ≤ b) : sub zs b n = sub (splice s.z5 257 (magic h.way.toNat)) b n := by
  rw [s.off_x h1 (by omega), s.off_p (by omega), s.offn7 (by omega), s.offn6 d6, s.offn5 d5, s.offn4 d4, s.offn3 d3, s.offn2 d2, s.offn1 d1, s.offn0 d0]
theorem Steps.text0 (s : Steps h zs) : txt zs 0 100 = h.name := putT_back s.t0 Steps.len0 (by decide) (by
  rw [s.down (by decide) (by decide) (by decide) (by decide) (by decide) (by decide) (by decide) (by decide) (by decide) , s.offg (by decide), s.offt4 (by decide), s.offt3 (by decide), s.offt2 (by decide), s.offt1 (by decide)])
theorem Steps.text1 (s : Steps h zs) : txt zs 157 100 = h.link := putT_back s.t1 s.lz1 (by decide) (by
  rw [s.down (by decide) (by decide) (by decide) (by decide) (by decide) (by decide) (by decide) (by decide) (by decide) , s.offg (by decide), s.offt4 (by decide), s.offt3 (by decide), s.offt2 (by decide)])
theorem Steps.text2 (s : Steps h zs) : txt zs 265 32 = h.user := putT_back s.t2 s.lz2 (by decide) (by
  rw [s.down (by decide) (by decide) (by decide) (by decide) (by decide) (by decide) (by decide) (by decide) (by decide) , s.offg (by decide), s.offt4 (by decide), s.offt3 (by decide)])
theorem Steps.text3 (s : Steps h zs) : txt zs 297 32 = h.group := putT_back s.t3 s.lz3 (by decide) (by
  rw [s.down (by decide) (by decide) (by decide) (by decide) (by decide) (by decide) (by decide) (by decide) (by decide) , s.offg (by decide), s.offt4 (by decide)])
theorem Steps.text4 (s : Steps h zs) (hw : h.way = 1) : txt zs 345 155 = h.pre := putT_back s.t4 s.lz4 (by decide) (by
  have hsp := s.sparse
  have hq : h.kind ≠ 83 ∧ h.parts = [] ∧ h.more = false := by
    rcases hsp with hsp | hsp
    · have := hsp.2; omega
    · exact hsp
  have h8 := (putN_no s.n7 (by rw [show (h.kind == 83) = false by simpa using hq.1]; rfl)).1
  rw [s.off_x (by decide) (.inr (.inr hq.2.2)), s.off_p (.inr (.inr hq.2.1)), h8, s.offn6 (by decide), s.offn5 (by decide), s.offn4 (by decide), s.offn3 (by decide), s.offn2 (by decide), s.offn1 (by decide), s.offn0 (by decide), s.offg (by decide)])
theorem Steps.num0 (s : Steps h zs) : numOk zs 100 8 0 most = true ∧ num zs 100 8 = h.mode := putN_back s.n0 s.ly0 (by decide) (by decide) (by decide) (by decide) (by decide) rfl (by
  rw [s.off_x (by decide) (.inl (by decide)), s.off_p (.inl (by decide)), s.offn7 (by decide), s.offn6 (by decide), s.offn5 (by decide), s.offn4 (by decide), s.offn3 (by decide), s.offn2 (by decide), s.offn1 (by decide)])
theorem Steps.num1 (s : Steps h zs) : numOk zs 108 8 0 most = true ∧ num zs 108 8 = h.uid := putN_back s.n1 s.ly1 (by decide) (by decide) (by decide) (by decide) (by decide) rfl (by
  rw [s.off_x (by decide) (.inl (by decide)), s.off_p (.inl (by decide)), s.offn7 (by decide), s.offn6 (by decide), s.offn5 (by decide), s.offn4 (by decide), s.offn3 (by decide), s.offn2 (by decide)])
theorem Steps.num2 (s : Steps h zs) : numOk zs 116 8 0 most = true ∧ num zs 116 8 = h.gid := putN_back s.n2 s.ly2 (by decide) (by decide) (by decide) (by decide) (by decide) rfl (by
  rw [s.off_x (by decide) (.inl (by decide)), s.off_p (.inl (by decide)), s.offn7 (by decide), s.offn6 (by decide), s.offn5 (by decide), s.offn4 (by decide), s.offn3 (by decide)])
theorem Steps.num3 (s : Steps h zs) : numOk zs 124 12 0 maxSize = true ∧ num zs 124 12 = h.size := putN_back s.n3 s.ly3 (by decide) (by decide) (by decide) (by decide) (by decide) rfl (by
  rw [s.off_x (by decide) (.inl (by decide)), s.off_p (.inl (by decide)), s.offn7 (by decide), s.offn6 (by decide), s.offn5 (by decide), s.offn4 (by decide)])
theorem Steps.num4 (s : Steps h zs) : numOk zs 136 12 (-most) most = true ∧ num zs 136 12 = h.mtime := putN_back s.n4 s.ly4 (by decide) (by decide) (by decide) (by decide) (by decide) rfl (by
  rw [s.off_x (by decide) (.inl (by decide)), s.off_p (.inl (by decide)), s.offn7 (by decide), s.offn6 (by decide), s.offn5 (by decide)])
theorem Steps.num5 (s : Steps h zs) (ht : (h.way != 0) = true) : numOk zs 329 8 0 most = true ∧ num zs 329 8 = h.major := putN_back s.n5 s.ly5 (by decide) (by decide) (by decide) (by decide) (by decide) ht (by
  rw [s.off_x (by decide) (.inl (by decide)), s.off_p (.inl (by decide)), s.offn7 (by decide), s.offn6 (by decide)])
theorem Steps.num6 (s : Steps h zs) (ht : (h.way != 0) = true) : numOk zs 337 8 0 most = true ∧ num zs 337 8 = h.minor := putN_back s.n6 s.ly6 (by decide) (by decide) (by decide) (by decide) (by decide) ht (by
  rw [s.off_x (by decide) (.inl (by decide)), s.off_p (.inl (by decide)), s.offn7 (by decide)])
theorem Steps.num7 (s : Steps h zs) (ht : (h.kind == 83 && h.way == 2) = true) : numOk zs 483 12 0 maxSize = true ∧ num zs 483 12 = h.real := putN_back s.n7 s.ly7 (by decide) (by decide) (by decide) (by decide) (by decide) ht (by
  rw [s.off_x (by decide) (.inr (.inl (by decide))), s.off_p (.inr (.inl (by decide)))])
theorem Steps.magic_ (s : Steps h zs) : sub zs 257 8 = magic h.way.toNat := by
  rw [s.down (by decide) (by decide) (by decide) (by decide) (by decide) (by decide) (by decide) (by decide) (by decide) , sub_same (magic_len' _) (by rw [s.lz5]; decide)]
theorem Steps.way_at (s : Steps h zs) : way zs = some h.way.toNat := by
  have hw := s.way_
  unfold way
  rw [if_pos s.lout, s.magic_]
  have : h.way.toNat = 0 ∨ h.way.toNat = 1 ∨ h.way.toNat = 2 := by omega
  rcases this with e | e | e <;> rw [e] <;> rfl
theorem Steps.byte_kind (s : Steps h zs) : byt zs 156 = h.kind := by
  have e : sub zs 156 1 = sub ((nils 512).set 156 h.kind) 156 1 := by
    rw [s.down (by decide) (by decide) (by decide) (by decide) (by decide) (by decide) (by decide) (by decide) (by decide) , s.offg (by decide), s.offt4 (by decide), s.offt3 (by decide), s.offt2 (by decide), s.offt1 (by decide), s.offt0 (by decide)]
  rw [byt_sub e, byt_set_same (by rw [nils_len]; decide)]
theorem Steps.kind_ (s : Steps h zs) : kind zs = h.kind := by
  unfold kind
  rw [s.byte_kind, if_neg]
  intro e
  have := s.kd.1
  rw [e] at this
  exact absurd this (by decide)
theorem Steps.parts_ (s : Steps h zs) (hs : h.kind = 83 ∧ h.way = 2) : parts zs 386 4 = some h.parts := by
  have hb := s.isbare
  have hbl : blank h.pre = true := by
    unfold bare at hb
    rw [Bool.and_eq_true, Bool.and_eq_true, hs.2] at hb
    simpa using hb.2.2
  have h4 := (putT_blank s.t4 hbl).1
  refine parts_back h.parts s.y8 0 s.x zs s.ly8 s.lout (by have := s.few.1; omega) s.few.2 (fun b n hb1 hn => s.off_x (.inr (by omega)) (.inl hn)) (fun b n hb1 hn => ?_)
  rw [pputs_off _ _ _ _ _ _ s.ly8 (by have := s.few.1; omega) (.inr hb1) s.few.2, s.offn7 (by omega), s.offn6 (by omega), s.offn5 (by omega), s.offn4 (by omega), s.offn3 (by omega), s.offn2 (by omega), s.offn1 (by omega), s.offn0 (by omega), s.offg (by omega), h4,
    sub_in (by rw [nils_len, s.lz4]; decide) (by omega) (by rw [nils_len]; omega), sub_nils _ _ _ (by omega)]
theorem Steps.more_ (s : Steps h zs) (hs : h.kind = 83 ∧ h.way = 2) : (byt zs 482 != 0) = h.more := by
  have hb := s.isbare
  have hbl : blank h.pre = true := by
    unfold bare at hb
    rw [Bool.and_eq_true, Bool.and_eq_true, hs.2] at hb
    simpa using hb.2.2
  have h4 := (putT_blank s.t4 hbl).1
  have e : byt zs 482 = byt (if h.more = true then s.x.set 482 1 else s.x) 482 := by
    refine (congrArg (fun q => byt q 482) s.out).trans ?_
    show byt (sld _) 482 = _
    unfold sld
    rw [pad_self s.lw]
    exact byt_off (m := 8) (oct8_len _) (by rw [s.lw]; decide) (by decide)
  rw [e]
  cases hm : h.more with
  | true =>
    rw [if_pos rfl, byt_set_same (by rw [s.lx]; decide)]
    rfl
  | false =>
    rw [if_neg (by decide)]
    have e2 : sub s.x 482 1 = nils 1 := by
      rw [s.off_p (.inr (.inl (by decide))), s.offn7 (by decide), s.offn6 (by decide), s.offn5 (by decide), s.offn4 (by decide), s.offn3 (by decide), s.offn2 (by decide), s.offn1 (by decide), s.offn0 (by decide), s.offg (by decide), h4,
        sub_in (by rw [nils_len, s.lz4]; decide) (by decide) (by rw [nils_len]; decide), sub_nils _ _ _ (by decide)]
    rw [byt_sub (ys := nils 512) (e2.trans (sub_nils 482 1 512 (by decide)).symm)]
    decide +kernel
theorem Steps.all_ok (s : Steps h zs) : allOk zs h.kind h.way = true := by
  unfold allOk rnOk
  rw [s.num0.1, s.num1.1, s.num2.1, s.num3.1, s.num4.1]
  simp only [Bool.true_and]
  have h5 : (!(h.way != 0) || numOk zs 329 8 0 most) = true := by
    cases hw : h.way != 0 with
    | false => rfl
    | true => rw [(s.num5 hw).1]; rfl
  have h6 : (!(h.way != 0) || numOk zs 337 8 0 most) = true := by
    cases hw : h.way != 0 with
    | false => rfl
    | true => rw [(s.num6 hw).1]; rfl
  have h7 : (!(h.kind == 83 && h.way == 2) || numOk zs 483 12 0 maxSize) = true := by
    cases hw : h.kind == 83 && h.way == 2 with
    | false => rfl
    | true => rw [(s.num7 hw).1]; rfl
  rw [h5, h6, h7]
  rfl
theorem Steps.told_ (s : Steps h zs) : told zs h.way.toNat = { h with parts := [], more := false } := by
  unfold told
  rw [s.kind_, s.way_.2.2]
  have hb := s.isbare
  unfold bare at hb
  rw [Bool.and_eq_true, Bool.and_eq_true] at hb
  obtain ⟨hb1, hb2, hb3⟩ := hb
  refine hdr_eq s.text0 s.num0.2 s.num1.2 s.num2.2 s.num3.2 s.num4.2 rfl s.text1 rfl ?_ ?_ ?_ ?_ ?_ rfl rfl ?_
  · show (if h.way != 0 then txt zs 265 32 else ⟨#[]⟩) = h.user
    cases hw : h.way != 0 with
    | true => rw [if_pos rfl, s.text2]
    | false =>
      rw [hw, Bool.false_or] at hb1
      rw [if_neg (by decide), (putT_blank s.t2 hb1).2]
  · show (if h.way != 0 then txt zs 297 32 else ⟨#[]⟩) = h.group
    cases hw : h.way != 0 with
    | true => rw [if_pos rfl, s.text3]
    | false =>
      rw [hw, Bool.false_or] at hb2
      rw [if_neg (by decide), (putT_blank s.t3 hb2).2]
  · show (if h.way != 0 then num zs 329 8 else 0) = h.major
    cases hw : h.way != 0 with
    | true => rw [if_pos rfl, (s.num5 hw).2]
    | false => rw [if_neg (by decide), (putN_no s.n5 hw).2]
  · show (if h.way != 0 then num zs 337 8 else 0) = h.minor
    cases hw : h.way != 0 with
    | true => rw [if_pos rfl, (s.num6 hw).2]
    | false => rw [if_neg (by decide), (putN_no s.n6 hw).2]
  · show (if h.way == 1 then txt zs 345 155 else ⟨#[]⟩) = h.pre
    cases hw : h.way == 1 with
    | true => rw [if_pos rfl, s.text4 (by simpa using hw)]
    | false =>
      rw [hw, Bool.false_or] at hb3
      rw [if_neg (by decide), (putT_blank s.t4 hb3).2]
  · show (if (h.kind == 83 && h.way == 2) then num zs 483 12 else 0) = h.real
    cases hw : h.kind == 83 && h.way == 2 with
    | true => rw [if_pos rfl, (s.num7 hw).2]
    | false => rw [if_neg (by decide), (putN_no s.n7 hw).2]
/-- What is printed is parsed. -/
theorem Steps.back (s : Steps h zs) : hparse zs = (0, h) := by
  unfold hparse
  rw [if_neg (by rw [s.lout]; decide), if_neg (by rw [s.right_]; decide), if_neg (by rw [s.kind_, s.kd.1]; decide), s.way_at]
  simp only
  rw [s.kind_, s.way_.2.2, if_neg (by rw [s.all_ok]; decide), if_neg (by rw [s.kd.2]; decide)]
  rcases s.sparse with hs | hs
  · rw [if_pos hs.1, s.parts_ hs, s.told_, s.more_ hs]
  · rw [if_neg hs.1, s.told_, ← hs.2.1, ← hs.2.2]
end
theorem print_back {h : Hdr} {zs : List Int} (hp : hprint h = (0, zs)) : Nonempty (Steps h zs) := steps hp
end M
end Go.Proofs.YtbjejgnfnpednaaDoor
