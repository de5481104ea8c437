/-
  What is printed is parsed: plain mathematics.
-/
import Derived.Test.YtbjejgnfnpednaaDoorHMh
namespace Go.Proofs.YtbjejgnfnpednaaDoor
namespace M

theorem sub_same {zs f : List Int} {a n : Nat} (hn : f.length = n) (h : a + n ≤ zs.length) : sub (splice zs a f) a n = f := by
  subst hn
  unfold sub splice
  rw [List.drop_append, List.length_take, Nat.min_eq_left (by omega), Nat.sub_self, List.drop_eq_nil_of_le (by rw [List.length_take]; omega), List.nil_append, List.drop_zero, List.take_append_of_le_length (Nat.le_refl _), List.take_length]
theorem sub_ext {xs ys : List Int} {b n : Nat} (h : ∀ j, j < n → xs[b + j]? = ys[b + j]?) : sub xs b n = sub ys b n := by
  unfold sub
  apply List.ext_getElem?
  intro j
  rw [List.getElem?_take, List.getElem?_take]
  split
  · rw [List.getElem?_drop, List.getElem?_drop]
    exact h j (by assumption)
  · rfl
theorem splice_get {zs f : List Int} {a i : Nat} (h : a + f.length ≤ zs.length) (hd : i < a ∨ a + f.length ≤ i) : (splice zs a f)[i]? = zs[i]? := by
  unfold splice
  have hl : (zs.take a).length = a := by rw [List.length_take]; omega
  rcases hd with hd | hd
  · rw [List.getElem?_append_left (by omega), List.getElem?_take, if_pos hd]
  · rw [List.getElem?_append_right (by omega), List.getElem?_append_right (by omega), List.getElem?_drop, hl]
    congr 1
    omega
theorem sub_off {zs f : List Int} {a m b n : Nat} (hm : f.length = m) (h : a + m ≤ zs.length) (hd : b + n ≤ a ∨ a + m ≤ b) : sub (splice zs a f) b n = sub zs b n := by
  subst hm
  exact sub_ext fun j hj => splice_get h (by omega)
theorem sub_set {zs : List Int} {i b n : Nat} {x : Int} (hd : i < b ∨ b + n ≤ i) : sub (zs.set i x) b n = sub zs b n :=
  sub_ext fun j hj => List.getElem?_set_ne (by omega)
theorem byt_off {zs f : List Int} {a m i : Nat} (hm : f.length = m) (h : a + m ≤ zs.length) (hd : i < a ∨ a + m ≤ i) : byt (splice zs a f) i = byt zs i := by
  subst hm
  unfold byt
  rw [List.getD_eq_getElem?_getD, List.getD_eq_getElem?_getD, splice_get h hd]
theorem byt_set {zs : List Int} {i k : Nat} {x : Int} (hd : k ≠ i) : byt (zs.set k x) i = byt zs i := by
  unfold byt
  rw [List.getD_eq_getElem?_getD, List.getD_eq_getElem?_getD, List.getElem?_set_ne hd]
theorem byt_set_same {zs : List Int} {i : Nat} {x : Int} (h : i < zs.length) : byt (zs.set i x) i = x := by
  unfold byt
  rw [List.getD_eq_getElem?_getD, List.getElem?_set_self h]
  rfl
theorem sub_nils (b n N : Nat) (h : b + n ≤ N) : sub (nils N) b n = nils n := by
  unfold sub nils
  rw [List.drop_replicate, List.take_replicate, Nat.min_eq_left (by omega)]

theorem magic_len' (k : Nat) : (magic k).length = 8 := by
  match k with
  | 0 => rfl
  | 1 => rfl
  | k + 2 => rfl
/-! One step. -/
theorem putT_some {zs z : List Int} {a m : Nat} {s : ByteArray} (h : putT zs a m s = some z) : ∃ l, S.M.put s.data.toList (m : Int) = some l ∧ z = splice zs a (S.ints l) ∧ (S.ints l).length = m := by
  unfold putT at h
  obtain ⟨l, hl, rfl⟩ := Option.map_eq_some_iff.1 h
  exact ⟨l, hl, rfl, by rw [S.ints_length]; exact put_len hl⟩
theorem putT_len {zs z : List Int} {a m : Nat} {s : ByteArray} (h : putT zs a m s = some z) (hz : zs.length = 512) (ham : a + m ≤ 512) : z.length = 512 := by
  obtain ⟨l, _, rfl, hl⟩ := putT_some h
  rw [length_splice _ _ _ (by omega), hz]
theorem putT_off {zs z : List Int} {a m b n : Nat} {s : ByteArray} (h : putT zs a m s = some z) (hz : zs.length = 512) (ham : a + m ≤ 512) (hd : b + n ≤ a ∨ a + m ≤ b) : sub z b n = sub zs b n := by
  obtain ⟨l, _, rfl, hl⟩ := putT_some h
  exact sub_off hl (by omega) hd
theorem putT_byt {zs z : List Int} {a m i : Nat} {s : ByteArray} (h : putT zs a m s = some z) (hz : zs.length = 512) (ham : a + m ≤ 512) (hd : i < a ∨ a + m ≤ i) : byt z i = byt zs i := by
  obtain ⟨l, _, rfl, hl⟩ := putT_some h
  exact byt_off hl (by omega) hd
/-- The text comes back. -/
theorem putT_back {zs z ys : List Int} {a m : Nat} {s : ByteArray} (h : putT zs a m s = some z) (hz : zs.length = 512) (ham : a + m ≤ 512) (hy : sub ys a m = sub z a m) : txt ys a m = s := by
  obtain ⟨l, hp, rfl, hl⟩ := putT_some h
  rw [sub_same hl (by omega)] at hy
  unfold txt
  rw [hy, toB_ints]
  unfold S.M.put at hp
  split at hp
  · rename_i h1
    injection hp with hp
    rw [← hp, S.M.cut_append h1.2]
  · cases hp
theorem putT_blank {zs z : List Int} {a m : Nat} {s : ByteArray} (h : putT zs a m s = some z) (hb : blank s = true) : z = splice zs a (nils m) ∧ s = ⟨#[]⟩ := by
  obtain ⟨l, hp, rfl, hl⟩ := putT_some h
  have hs : s = ⟨#[]⟩ := toList_inj (by rw [ByteArray.toList_eq ⟨#[]⟩]; simpa [blank] using hb)
  subst hs
  refine ⟨?_, rfl⟩
  congr 1
  unfold S.M.put at hp
  split at hp
  · injection hp with hp
    rw [← hp]
    unfold S.ints nils
    simp
  · cases hp
theorem putN_len {zs z : List Int} {a m : Nat} {there : Bool} {lo up x : Int} (h : putN zs a m there lo up x = some z) (hz : zs.length = 512) (ham : a + m ≤ 512) : z.length = 512 := by
  unfold putN at h
  split at h
  · split at h
    · rename_i ho
      injection h with h
      rw [← h, length_splice _ _ _ (by rw [putR_len (putOk_fits ho)]; omega), hz]
    · cases h
  · split at h
    · injection h with h; rw [← h, hz]
    · cases h
theorem putN_off {zs z : List Int} {a m b n : Nat} {there : Bool} {lo up x : Int} (h : putN zs a m there lo up x = some z) (hz : zs.length = 512) (ham : a + m ≤ 512) (hd : b + n ≤ a ∨ a + m ≤ b) : sub z b n = sub zs b n := by
  unfold putN at h
  split at h
  · split at h
    · rename_i ho
      injection h with h
      rw [← h]
      exact sub_off (putR_len (putOk_fits ho)) (by omega) hd
    · cases h
  · split at h
    · injection h with h; rw [← h]
    · cases h
theorem putN_byt {zs z : List Int} {a m i : Nat} {there : Bool} {lo up x : Int} (h : putN zs a m there lo up x = some z) (hz : zs.length = 512) (ham : a + m ≤ 512) (hd : i < a ∨ a + m ≤ i) : byt z i = byt zs i := by
  unfold putN at h
  split at h
  · split at h
    · rename_i ho
      injection h with h
      rw [← h]
      exact byt_off (putR_len (putOk_fits ho)) (by omega) hd
    · cases h
  · split at h
    · injection h with h; rw [← h]
    · cases h
theorem putN_no {zs z : List Int} {a m : Nat} {there : Bool} {lo up x : Int} (h : putN zs a m there lo up x = some z) (ht : there = false) : z = zs ∧ x = 0 := by
  unfold putN at h
  rw [ht, if_neg (by decide)] at h
  split at h
  · injection h with h; exact ⟨h.symm, by assumption⟩
  · cases h
/-- The number comes back. -/
theorem read_back {ys : List Int} {a m : Nat} {lo up x : Int} (ho : putOk x m lo up = true) (h2 : 2 ≤ m) (h32 : m ≤ 32) (hlo : -most ≤ lo) (hup : up ≤ most) (hy : sub ys a m = putR x m) : numOk ys a m lo up = true ∧ num ys a m = x := by
  have hf := putOk_fits ho
  unfold putOk at ho
  rw [Bool.and_eq_true, Bool.and_eq_true, decide_eq_true_eq, decide_eq_true_eq] at ho
  have hb := put_back h2 h32 (Int.le_trans hlo ho.2.1) (Int.le_trans ho.2.2 hup) hf
  have hn : num ys a m = x := by unfold num; rw [hy, hb.2.2]
  refine ⟨?_, hn⟩
  unfold numOk
  rw [hn, hy, hb.2.1, decide_eq_true ho.2.1, decide_eq_true ho.2.2]
  rfl
theorem putN_back {zs z ys : List Int} {a m : Nat} {there : Bool} {lo up x : Int} (h : putN zs a m there lo up x = some z) (hz : zs.length = 512) (ham : a + m ≤ 512) (h2 : 2 ≤ m) (h32 : m ≤ 32) (hlo : -most ≤ lo) (hup : up ≤ most)
    (ht : there = true) (hy : sub ys a m = sub z a m) : numOk ys a m lo up = true ∧ num ys a m = x := by
  unfold putN at h
  rw [ht, if_pos rfl] at h
  split at h
  · rename_i ho
    injection h with h
    rw [← h, sub_same (putR_len (putOk_fits ho)) (by omega)] at hy
    exact read_back ho h2 h32 hlo hup hy
  · cases h

/-! Parts. -/
theorem pputs_len : ∀ (l : List (Int × Int)) (zs : List Int) (i : Nat) (x : List Int), zs.length = 512 → i + l.length ≤ 4 → pputs zs i l = some x → x.length = 512
  | [], zs, i, x, hz, _, h => by
    rw [pputs] at h; injection h with h; rw [← h, hz]
  | p :: l, zs, i, x, hz, hl, h => by
    rw [List.length_cons] at hl
    rw [pputs] at h
    split at h
    · cases h
    · split at h
      · split at h
        · rename_i _ h1 h2
          have e1 := putR_len (m := 12) (putOk_fits h1)
          have e2 := putR_len (m := 12) (putOk_fits h2)
          refine pputs_len l _ _ x ?_ (by omega) h
          rw [length_splice, length_splice, hz]
          · show _ + (putR p.1 12).length ≤ _; rw [show (putR p.1 12).length = 12 from e1]; omega
          · rw [length_splice]
            · show _ + (putR p.2 12).length ≤ _; rw [show (putR p.2 12).length = 12 from e2]; omega
            · show _ + (putR p.1 12).length ≤ _; rw [show (putR p.1 12).length = 12 from e1]; omega
        · cases h
      · cases h
theorem pputs_off : ∀ (l : List (Int × Int)) (zs : List Int) (i : Nat) (x : List Int) (b n : Nat), zs.length = 512 → i + l.length ≤ 4 → (b + n ≤ 386 + 24 * i ∨ 386 + 24 * (i + l.length) ≤ b) → pputs zs i l = some x → sub x b n = sub zs b n
  | [], zs, i, x, b, n, _, _, _, h => by
    rw [pputs] at h; injection h with h; rw [← h]
  | p :: l, zs, i, x, b, n, hz, hl, hd, h => by
    rw [List.length_cons] at hl hd
    rw [pputs] at h
    split at h
    · cases h
    · split at h
      · split at h
        · rename_i _ h1 h2
          have e1 : (putR p.1 12).length = 12 := putR_len (m := 12) (putOk_fits h1)
          have e2 : (putR p.2 12).length = 12 := putR_len (m := 12) (putOk_fits h2)
          have hl1 : (splice zs (386 + 24 * i) (putR p.1 12)).length = 512 := by rw [length_splice _ _ _ (by omega), hz]
          have hl2 : (splice (splice zs (386 + 24 * i) (putR p.1 12)) (386 + 24 * i + 12) (putR p.2 12)).length = 512 := by rw [length_splice _ _ _ (by omega), hl1]
          rw [pputs_off l _ _ x b n hl2 (by omega) (by omega) h, sub_off e2 (by omega) (by omega), sub_off e1 (by omega) (by omega)]
        · cases h
      · cases h
theorem nought12 : numOk (nils 12) 0 12 0 most = true ∧ num (nils 12) 0 12 = 0 := by decide +kernel
theorem num_of_sub {xs ys : List Int} {a b n : Nat} (h : sub xs a n = sub ys b n) (lo up : Int) : num xs a n = num ys b n ∧ numOk xs a n lo up = numOk ys b n lo up := by
  have e : num xs a n = num ys b n := by unfold num; rw [h]
  refine ⟨e, ?_⟩
  unfold numOk
  rw [h, e]
theorem parts_back : ∀ (l : List (Int × Int)) (zs : List Int) (i : Nat) (x ys : List Int), zs.length = 512 → ys.length = 512 → i + l.length ≤ 4 → pputs zs i l = some x → (∀ b n, 386 + 24 * i ≤ b → b + n ≤ 482 → sub ys b n = sub x b n) →
    (∀ b n, 386 + 24 * (i + l.length) ≤ b → b + n ≤ 482 → sub x b n = nils n) → parts ys (386 + 24 * i) (4 - i) = some l
  | [], zs, i, x, ys, hz, hy, hl, h, hyx, h0 => by
    rcases Nat.lt_or_ge i 4 with h4 | h4
    · obtain ⟨r, hr⟩ : ∃ r, 4 - i = r + 1 := ⟨3 - i, by omega⟩
      have e1 := (hyx (386 + 24 * i) 12 (Nat.le_refl _) (by omega)).trans (h0 _ _ (by simp) (by omega))
      have e2 := (hyx (386 + 24 * i + 12) 12 (by omega) (by omega)).trans (h0 _ _ (by simp) (by omega))
      have z12 : sub (nils 12) 0 12 = nils 12 := rfl
      have n1 := num_of_sub (ys := nils 12) (b := 0) (e1.trans z12.symm) 0 most
      have n2 := num_of_sub (ys := nils 12) (b := 0) (e2.trans z12.symm) 0 most
      rw [hr, parts, if_neg (by omega), n1.2, n2.2, nought12.1, n1.1, n2.1, nought12.2]
      simp
    · rw [show 4 - i = 0 by omega]
      rfl
  | p :: l, zs, i, x, ys, hz, hy, hl, h, hyx, h0 => by
    rw [List.length_cons] at hl h0
    rw [pputs] at h
    split at h
    · cases h
    · rename_i hnz
      split at h
      · split at h
        · rename_i h1 h2
          have e1 : (putR p.1 12).length = 12 := putR_len (m := 12) (putOk_fits h1)
          have e2 : (putR p.2 12).length = 12 := putR_len (m := 12) (putOk_fits h2)
          have hl1 : (splice zs (386 + 24 * i) (putR p.1 12)).length = 512 := by rw [length_splice _ _ _ (by omega), hz]
          have hl2 : (splice (splice zs (386 + 24 * i) (putR p.1 12)) (386 + 24 * i + 12) (putR p.2 12)).length = 512 := by rw [length_splice _ _ _ (by omega), hl1]
          have s1 : sub ys (386 + 24 * i) 12 = putR p.1 12 := by
            rw [hyx _ _ (Nat.le_refl _) (by omega), pputs_off l _ _ x _ _ hl2 (by omega) (by omega) h, sub_off e2 (by omega) (by omega), sub_same e1 (by omega)]
          have s2 : sub ys (386 + 24 * i + 12) 12 = putR p.2 12 := by
            rw [hyx _ _ (by omega) (by omega), pputs_off l _ _ x _ _ hl2 (by omega) (by omega) h, sub_same e2 (by omega)]
          have r1 := read_back h1 (by decide) (by decide) (by decide) (Int.le_refl _) s1
          have r2 := read_back h2 (by decide) (by decide) (by decide) (Int.le_refl _) s2
          have ih := parts_back l _ (i + 1) x ys hl2 hy (by omega) h (fun b n hb hn => hyx b n (by omega) hn) (fun b n hb hn => h0 b n (by omega) hn)
          obtain ⟨r, hr⟩ : ∃ r, 4 - i = r + 1 := ⟨3 - i, by omega⟩
          rw [hr, parts, if_neg (by omega), r1.1, r2.1, r1.2, r2.2]
          simp only [Bool.and_self, if_true]
          rw [if_neg hnz, show 386 + 24 * i + 24 = 386 + 24 * (i + 1) by omega, show r = 4 - (i + 1) by omega, ih]
          rfl
        · cases h
      · cases h

/-! What was printed, step by step. -/
theorem bnd_ok {o : Option (List Int)} {e : Int} {f : List Int → Int × List Int} {r : List Int} (he : e ≠ 0) (h : bnd o e f = (0, r)) : ∃ z, o = some z ∧ f z = (0, r) := by
  cases o with
  | none => injection h with h; exact absurd h he
  | some z => exact ⟨z, rfl, h⟩
theorem chk_ok {b : Bool} {e : Int} {s : Int × List Int} {r : List Int} (he : e ≠ 0) (h : chk b e s = (0, r)) : b = true ∧ s = (0, r) := by
  cases b with
  | false => injection h with h; exact absurd h he
  | true => exact ⟨rfl, h⟩

/-- All that was laid. -/
structure Steps (h : Hdr) (zs : List Int) where
  z1 : List Int
  z2 : List Int
  z3 : List Int
  z4 : List Int
  z5 : List Int
  y1 : List Int
  y2 : List Int
  y3 : List Int
  y4 : List Int
  y5 : List Int
  y6 : List Int
  y7 : List Int
  y8 : List Int
  x : List Int
  kd : known h.kind = true ∧ may h.kind h.way = true
  t0 : putT ((nils 512).set 156 h.kind) 0 100 h.name = some z1
  t1 : putT z1 157 100 h.link = some z2
  t2 : putT z2 265 32 h.user = some z3
  t3 : putT z3 297 32 h.group = some z4
  t4 : putT z4 345 155 h.pre = some z5
  isbare : bare h = true
  isway : isWay h.way = true
  n0 : putN (splice z5 257 (magic h.way.toNat)) 100 8 true 0 most h.mode = some y1
  n1 : putN y1 108 8 true 0 most h.uid = some y2
  n2 : putN y2 116 8 true 0 most h.gid = some y3
  n3 : putN y3 124 12 true 0 maxSize h.size = some y4
  n4 : putN y4 136 12 true (-most) most h.mtime = some y5
  n5 : putN y5 329 8 (h.way != 0) 0 most h.major = some y6
  n6 : putN y6 337 8 (h.way != 0) 0 most h.minor = some y7
  n7 : putN y7 483 12 (h.kind == 83 && h.way == 2) 0 maxSize h.real = some y8
  isflat : flat h = true
  pp : putP y8 h.parts = some x
  out : zs = sld (if h.more = true then x.set 482 1 else x)
theorem steps {h : Hdr} {zs : List Int} (hp : hprint h = (0, zs)) : Nonempty (Steps h zs) := by
  unfold hprint at hp
  obtain ⟨k1, hp⟩ := chk_ok (by decide) hp
  obtain ⟨z1, t0, hp⟩ := bnd_ok (by decide) hp
  obtain ⟨z2, t1, hp⟩ := bnd_ok (by decide) hp
  obtain ⟨z3, t2, hp⟩ := bnd_ok (by decide) hp
  obtain ⟨z4, t3, hp⟩ := bnd_ok (by decide) hp
  obtain ⟨z5, t4, hp⟩ := bnd_ok (by decide) hp
  obtain ⟨k2, hp⟩ := chk_ok (by decide) hp
  obtain ⟨k3, hp⟩ := chk_ok (by decide) hp
  obtain ⟨y1, n0, hp⟩ := bnd_ok (by decide) hp
  obtain ⟨y2, n1, hp⟩ := bnd_ok (by decide) hp
  obtain ⟨y3, n2, hp⟩ := bnd_ok (by decide) hp
  obtain ⟨y4, n3, hp⟩ := bnd_ok (by decide) hp
  obtain ⟨y5, n4, hp⟩ := bnd_ok (by decide) hp
  obtain ⟨y6, n5, hp⟩ := bnd_ok (by decide) hp
  obtain ⟨y7, n6, hp⟩ := bnd_ok (by decide) hp
  obtain ⟨y8, n7, hp⟩ := bnd_ok (by decide) hp
  obtain ⟨k4, hp⟩ := chk_ok (by decide) hp
  obtain ⟨x, pp, hp⟩ := bnd_ok (by decide) hp
  injection hp with _ hp
  rw [Bool.and_eq_true] at k1
  exact ⟨⟨z1, z2, z3, z4, z5, y1, y2, y3, y4, y5, y6, y7, y8, x, k1, t0, t1, t2, t3, t4, k2, k3, n0, n1, n2, n3, n4, n5, n6, n7, k4, pp, hp.symm⟩⟩

section
variable {h : Hdr} {zs : List Int}
theorem Steps.len0 : ((nils 512).set 156 h.kind).length = 512 := by rw [List.length_set, nils_len]
theorem Steps.lz1 (s : Steps h zs) : s.z1.length = 512 := putT_len s.t0 Steps.len0 (by decide)
theorem Steps.lz2 (s : Steps h zs) : s.z2.length = 512 := putT_len s.t1 s.lz1 (by decide)
theorem Steps.lz3 (s : Steps h zs) : s.z3.length = 512 := putT_len s.t2 s.lz2 (by decide)
theorem Steps.lz4 (s : Steps h zs) : s.z4.length = 512 := putT_len s.t3 s.lz3 (by decide)
theorem Steps.lz5 (s : Steps h zs) : s.z5.length = 512 := putT_len s.t4 s.lz4 (by decide)
theorem Steps.ly0 (s : Steps h zs) : (splice s.z5 257 (magic h.way.toNat)).length = 512 := by rw [length_splice _ _ _ (by rw [magic_len', s.lz5]; decide), s.lz5]
theorem Steps.ly1 (s : Steps h zs) : s.y1.length = 512 := putN_len s.n0 s.ly0 (by decide)
theorem Steps.ly2 (s : Steps h zs) : s.y2.length = 512 := putN_len s.n1 s.ly1 (by decide)
theorem Steps.ly3 (s : Steps h zs) : s.y3.length = 512 := putN_len s.n2 s.ly2 (by decide)
theorem Steps.ly4 (s : Steps h zs) : s.y4.length = 512 := putN_len s.n3 s.ly3 (by decide)
theorem Steps.ly5 (s : Steps h zs) : s.y5.length = 512 := putN_len s.n4 s.ly4 (by decide)
theorem Steps.ly6 (s : Steps h zs) : s.y6.length = 512 := putN_len s.n5 s.ly5 (by decide)
theorem Steps.ly7 (s : Steps h zs) : s.y7.length = 512 := putN_len s.n6 s.ly6 (by decide)
theorem Steps.ly8 (s : Steps h zs) : s.y8.length = 512 := putN_len s.n7 s.ly7 (by decide)
theorem Steps.few (s : Steps h zs) : h.parts.length ≤ 4 ∧ pputs s.y8 0 h.parts = some s.x := by
  have hp := s.pp
  unfold putP at hp
  split at hp
  · exact ⟨by assumption, hp⟩
  · cases hp
theorem Steps.lx (s : Steps h zs) : s.x.length = 512 := pputs_len _ _ _ _ s.ly8 (by have := s.few.1; omega) s.few.2
theorem Steps.lw (s : Steps h zs) : (if h.more = true then s.x.set 482 1 else s.x).length = 512 := by split <;> simp [s.lx]
theorem Steps.lout (s : Steps h zs) : zs.length = 512 := by rw [s.out]; exact sld_len _
theorem Steps.off_x (s : Steps h zs) {b n : Nat} (hd : b + n ≤ 148 ∨ 156 ≤ b) (h4 : b + n ≤ 482 ∨ 483 ≤ b ∨ h.more = false) : sub zs b n = sub s.x b n := by
  refine (congrArg (fun q => sub q b n) s.out).trans ?_
  show sub (sld _) b n = _
  unfold sld
  rw [pad_self s.lw, sub_off (m := 8) (oct8_len _) (by rw [s.lw]; decide) hd]
  split
  · rename_i hm
    exact sub_set (by rcases h4 with h4 | h4 | h4; omega; omega; rw [hm] at h4; cases h4)
  · rfl
theorem Steps.off_p (s : Steps h zs) {b n : Nat} (hd : b + n ≤ 386 ∨ 482 ≤ b ∨ h.parts = []) : sub s.x b n = sub s.y8 b n := by
  rcases hd with hd | hd | hd
  · exact pputs_off _ _ _ _ _ _ s.ly8 (by have := s.few.1; omega) (.inl (by omega)) s.few.2
  · exact pputs_off _ _ _ _ _ _ s.ly8 (by have := s.few.1; omega) (.inr (by have := s.few.1; omega)) s.few.2
  · have := s.few.2
    rw [hd, pputs] at this
    injection this with this
    rw [this]
theorem Steps.offn0 (s : Steps h zs) {b n : Nat} (hd : b + n ≤ 100 ∨ 108 ≤ b) : sub s.y1 b n = sub (splice s.z5 257 (magic h.way.toNat)) b n := putN_off s.n0 s.ly0 (by decide) (by omega)
theorem Steps.offn1 (s : Steps h zs) {b n : Nat} (hd : b + n ≤ 108 ∨ 116 ≤ b) : sub s.y2 b n = sub s.y1 b n := putN_off s.n1 s.ly1 (by decide) (by omega)
theorem Steps.offn2 (s : Steps h zs) {b n : Nat} (hd : b + n ≤ 116 ∨ 124 ≤ b) : sub s.y3 b n = sub s.y2 b n := putN_off s.n2 s.ly2 (by decide) (by omega)
theorem Steps.offn3 (s : Steps h zs) {b n : Nat} (hd : b + n ≤ 124 ∨ 136 ≤ b) : sub s.y4 b n = sub s.y3 b n := putN_off s.n3 s.ly3 (by decide) (by omega)
theorem Steps.offn4 (s : Steps h zs) {b n : Nat} (hd : b + n ≤ 136 ∨ 148 ≤ b) : sub s.y5 b n = sub s.y4 b n := putN_off s.n4 s.ly4 (by decide) (by omega)
theorem Steps.offn5 (s : Steps h zs) {b n : Nat} (hd : b + n ≤ 329 ∨ 337 ≤ b) : sub s.y6 b n = sub s.y5 b n := putN_off s.n5 s.ly5 (by decide) (by omega)
theorem Steps.offn6 (s : Steps h zs) {b n : Nat} (hd : b + n ≤ 337 ∨ 345 ≤ b) : sub s.y7 b n = sub s.y6 b n := putN_off s.n6 s.ly6 (by decide) (by omega)
theorem Steps.offn7 (s : Steps h zs) {b n : Nat} (hd : b + n ≤ 483 ∨ 495 ≤ b) : sub s.y8 b n = sub s.y7 b n := putN_off s.n7 s.ly7 (by decide) (by omega)
theorem Steps.offg (s : Steps h zs) {b n : Nat} (hd : b + n ≤ 257 ∨ 265 ≤ b) : sub (splice s.z5 257 (magic h.way.toNat)) b n = sub s.z5 b n := sub_off (m := 8) (magic_len' _) (by rw [s.lz5]; decide) (by omega)
theorem Steps.offt0 (s : Steps h zs) {b n : Nat} (hd : b + n ≤ 0 ∨ 100 ≤ b) : sub s.z1 b n = sub ((nils 512).set 156 h.kind) b n := putT_off s.t0 Steps.len0 (by decide) (by omega)
theorem Steps.offt1 (s : Steps h zs) {b n : Nat} (hd : b + n ≤ 157 ∨ 257 ≤ b) : sub s.z2 b n = sub s.z1 b n := putT_off s.t1 s.lz1 (by decide) (by omega)
theorem Steps.offt2 (s : Steps h zs) {b n : Nat} (hd : b + n ≤ 265 ∨ 297 ≤ b) : sub s.z3 b n = sub s.z2 b n := putT_off s.t2 s.lz2 (by decide) (by omega)
theorem Steps.offt3 (s : Steps h zs) {b n : Nat} (hd : b + n ≤ 297 ∨ 329 ≤ b) : sub s.z4 b n = sub s.z3 b n := putT_off s.t3 s.lz3 (by decide) (by omega)
theorem Steps.offt4 (s : Steps h zs) {b n : Nat} (hd : b + n ≤ 345 ∨ 500 ≤ b) : sub s.z5 b n = sub s.z4 b n := putT_off s.t4 s.lz4 (by decide) (by omega)
end
end M
end Go.Proofs.YtbjejgnfnpednaaDoor
