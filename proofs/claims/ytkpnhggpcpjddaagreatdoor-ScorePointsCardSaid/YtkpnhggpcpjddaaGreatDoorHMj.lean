/-
  Texts of one chapter, merged.
-/
import Derived.Test.YtkpnhggpcpjddaaGreatDoorHMh
import Derived.Test.YtkpnhggpcpjddaaGreatDoorHMa
import Derived.Lib.SlTrimSet
set_option linter.unusedVariables false
set_option linter.unusedSimpArgs false
/-! What is printed is parsed: plain mathematics. -/
namespace Go.Proofs.YtkpnhggpcpjddaaGreatDoor
namespace M

theorem sub_same {zs f : List Int} {a n : Nat} (hn : f.length = n) (h : a + n ≤ zs.length) : sub (splice zs a f) a n = f := by
  subst hn
  unfold sub splice
  rw [List.drop_append, List.length_take, Nat.min_eq_left (by omega), Nat.sub_self, List.drop_eq_nil_of_le (by rw [List.length_take]; omega), List.nil_append, List.drop_zero, List.take_append_of_le_length (Nat.le_refl _), List.take_length]
theorem sub_ext {xs ys : List Int} {b n : Nat} (h : ∀ j, j < n → xs[b + j]? = ys[b + j]?) : sub xs b n = sub ys b n := by
  unfold sub
  apply List.ext_getElem?
  intro j
  rw [List.getElem?_take, List.getElem?_take]
  split
  · rw [List.getElem?_drop, List.getElem?_drop]
    exact h j (by assumption)
  · rfl
theorem splice_get {zs f : List Int} {a i : Nat} (h : a + f.length ≤ zs.length) (hd : i < a ∨ a + f.length ≤ i) : (splice zs a f)[i]? = zs[i]? := by
  unfold splice
  have hl : (zs.take a).length = a := by rw [List.length_take]; omega
  rcases hd with hd | hd
  · rw [List.getElem?_append_left (by omega), List.getElem?_take, if_pos hd]
  · rw [List.getElem?_append_right (by omega), List.getElem?_append_right (by omega), List.getElem?_drop, hl]
    congr 1
    omega
theorem sub_off {zs f : List Int} {a m b n : Nat} (hm : f.length = m) (h : a + m ≤ zs.length) (hd : b + n ≤ a ∨ a + m ≤ b) : sub (splice zs a f) b n = sub zs b n := by
  subst hm
  exact sub_ext fun j hj => splice_get h (by omega)
theorem sub_set {zs : List Int} {i b n : Nat} {x : Int} (hd : i < b ∨ b + n ≤ i) : sub (zs.set i x) b n = sub zs b n :=
  sub_ext fun j hj => List.getElem?_set_ne (by omega)
theorem byt_off {zs f : List Int} {a m i : Nat} (hm : f.length = m) (h : a + m ≤ zs.length) (hd : i < a ∨ a + m ≤ i) : byt (splice zs a f) i = byt zs i := by
  subst hm
  unfold byt
  rw [List.getD_eq_getElem?_getD, List.getD_eq_getElem?_getD, splice_get h hd]
theorem byt_set {zs : List Int} {i k : Nat} {x : Int} (hd : k ≠ i) : byt (zs.set k x) i = byt zs i := by
  unfold byt
  rw [List.getD_eq_getElem?_getD, List.getD_eq_getElem?_getD, List.getElem?_set_ne hd]
theorem byt_set_same {zs : List Int} {i : Nat} {x : Int} (h : i < zs.length) : byt (zs.set i x) i = x := by
  unfold byt
  rw [List.getD_eq_getElem?_getD, List.getElem?_set_self h]
  rfl
theorem sub_nils (b n N : Nat) (h : b + n ≤ N) : sub (nils N) b n = nils n := by
  unfold sub nils
  rw [List.drop_replicate, List.take_replicate, Nat.min_eq_left (by omega)]

theorem magic_len' (k : Nat) : (magic k).length = 8 := by
  match k with
  | 0 => rfl
  | 1 => rfl
  | k + 2 => rfl
/-! One step. -/
theorem putT_some {zs z : List Int} {a m : Nat} {s : ByteArray} (h : putT zs a m s = some z) : ∃ l, S.M.put s.data.toList (m : Int) = some l ∧ z = splice zs a (S.ints l) ∧ (S.ints l).length = m := by
  unfold putT at h
  obtain ⟨l, hl, rfl⟩ := Option.map_eq_some_iff.1 h
  exact ⟨l, hl, rfl, by rw [S.ints_length]; exact put_len hl⟩
theorem putT_len {zs z : List Int} {a m : Nat} {s : ByteArray} (h : putT zs a m s = some z) (hz : zs.length = 512) (ham : a + m ≤ 512) : z.length = 512 := by
  obtain ⟨l, _, rfl, hl⟩ := putT_some h
  rw [length_splice _ _ _ (by omega), hz]
theorem putT_off {zs z : List Int} {a m b n : Nat} {s : ByteArray} (h : putT zs a m s = some z) (hz : zs.length = 512) (ham : a + m ≤ 512) (hd : b + n ≤ a ∨ a + m ≤ b) : sub z b n = sub zs b n := by
  obtain ⟨l, _, rfl, hl⟩ := putT_some h
  exact sub_off hl (by omega) hd
theorem putT_byt {zs z : List Int} {a m i : Nat} {s : ByteArray} (h : putT zs a m s = some z) (hz : zs.length = 512) (ham : a + m ≤ 512) (hd : i < a ∨ a + m ≤ i) : byt z i = byt zs i := by
  obtain ⟨l, _, rfl, hl⟩ := putT_some h
  exact byt_off hl (by omega) hd
/-- The text comes back. -/
theorem putT_back {zs z ys : List Int} {a m : Nat} {s : ByteArray} (h : putT zs a m s = some z) (hz : zs.length = 512) (ham : a + m ≤ 512) (hy : sub ys a m = sub z a m) : txt ys a m = s := by
  obtain ⟨l, hp, rfl, hl⟩ := putT_some h
  rw [sub_same hl (by omega)] at hy
  unfold txt
  rw [hy, toB_ints]
  unfold S.M.put at hp
  split at hp
  · rename_i h1
    injection hp with hp
    rw [← hp, S.M.cut_append h1.2]
  · cases hp
theorem putT_blank {zs z : List Int} {a m : Nat} {s : ByteArray} (h : putT zs a m s = some z) (hb : blank s = true) : z = splice zs a (nils m) ∧ s = ⟨#[]⟩ := by
  obtain ⟨l, hp, rfl, hl⟩ := putT_some h
  have hs : s = ⟨#[]⟩ := toList_inj (by rw [ByteArray.toList_eq ⟨#[]⟩]; simpa [blank] using hb)
  subst hs
  refine ⟨?_, rfl⟩
  congr 1
  unfold S.M.put at hp
  split at hp
  · injection hp with hp
    rw [← hp]
    unfold S.ints nils
    simp
  · cases hp
theorem putN_len {zs z : List Int} {a m : Nat} {there : Bool} {lo up x : Int} (h : putN zs a m there lo up x = some z) (hz : zs.length = 512) (ham : a + m ≤ 512) : z.length = 512 := by
  unfold putN at h
  split at h
  · split at h
    · rename_i ho
      injection h with h
      rw [← h, length_splice _ _ _ (by rw [putR_len (putOk_fits ho)]; omega), hz]
    · cases h
  · split at h
    · injection h with h; rw [← h, hz]
    · cases h
theorem putN_off {zs z : List Int} {a m b n : Nat} {there : Bool} {lo up x : Int} (h : putN zs a m there lo up x = some z) (hz : zs.length = 512) (ham : a + m ≤ 512) (hd : b + n ≤ a ∨ a + m ≤ b) : sub z b n = sub zs b n := by
  unfold putN at h
  split at h
  · split at h
    · rename_i ho
      injection h with h
      rw [← h]
      exact sub_off (putR_len (putOk_fits ho)) (by omega) hd
    · cases h
  · split at h
    · injection h with h; rw [← h]
    · cases h
theorem putN_byt {zs z : List Int} {a m i : Nat} {there : Bool} {lo up x : Int} (h : putN zs a m there lo up x = some z) (hz : zs.length = 512) (ham : a + m ≤ 512) (hd : i < a ∨ a + m ≤ i) : byt z i = byt zs i := by
  unfold putN at h
  split at h
  · split at h
    · rename_i ho
      injection h with h
      rw [← h]
      exact byt_off (putR_len (putOk_fits ho)) (by omega) hd
    · cases h
  · split at h
    · injection h with h; rw [← h]
    · cases h
theorem putN_no {zs z : List Int} {a m : Nat} {there : Bool} {lo up x : Int} (h : putN zs a m there lo up x = some z) (ht : there = false) : z = zs ∧ x = 0 := by
  unfold putN at h
  rw [ht, if_neg (by decide)] at h
  split at h
  · injection h with h; exact ⟨h.symm, by assumption⟩
  · cases h
/-- The number comes back. -/
theorem read_back {ys : List Int} {a m : Nat} {lo up x : Int} (ho : putOk x m lo up = true) (h2 : 2 ≤ m) (h32 : m ≤ 32) (hlo : -most ≤ lo) (hup : up ≤ most) (hy : sub ys a m = putR x m) : numOk ys a m lo up = true ∧ num ys a m = x := by
  have hf := putOk_fits ho
  unfold putOk at ho
  rw [Bool.and_eq_true, Bool.and_eq_true, decide_eq_true_eq, decide_eq_true_eq] at ho
  have hb := put_back h2 h32 (Int.le_trans hlo ho.2.1) (Int.le_trans ho.2.2 hup) hf
  have hn : num ys a m = x := by unfold num; rw [hy, hb.2.2]
  refine ⟨?_, hn⟩
  unfold numOk
  rw [hn, hy, hb.2.1, decide_eq_true ho.2.1, decide_eq_true ho.2.2]
  rfl
theorem putN_back {zs z ys : List Int} {a m : Nat} {there : Bool} {lo up x : Int} (h : putN zs a m there lo up x = some z) (hz : zs.length = 512) (ham : a + m ≤ 512) (h2 : 2 ≤ m) (h32 : m ≤ 32) (hlo : -most ≤ lo) (hup : up ≤ most)
    (ht : there = true) (hy : sub ys a m = sub z a m) : numOk ys a m lo up = true ∧ num ys a m = x := by
  unfold putN at h
  rw [ht, if_pos rfl] at h
  split at h
  · rename_i ho
    injection h with h
    rw [← h, sub_same (putR_len (putOk_fits ho)) (by omega)] at hy
    exact read_back ho h2 h32 hlo hup hy
  · cases h

/-! Parts. -/
theorem pputs_len : ∀ (l : List (Int × Int)) (zs : List Int) (i : Nat) (x : List Int), zs.length = 512 → i + l.length ≤ 4 → pputs zs i l = some x → x.length = 512
  | [], zs, i, x, hz, _, h => by
    rw [pputs] at h; injection h with h; rw [← h, hz]
  | p :: l, zs, i, x, hz, hl, h => by
    rw [List.length_cons] at hl
    rw [pputs] at h
    split at h
    · cases h
    · split at h
      · split at h
        · rename_i _ h1 h2
          have e1 := putR_len (m := 12) (putOk_fits h1)
          have e2 := putR_len (m := 12) (putOk_fits h2)
          refine pputs_len l _ _ x ?_ (by omega) h
          rw [length_splice, length_splice, hz]
          · show _ + (putR p.1 12).length ≤ _; rw [show (putR p.1 12).length = 12 from e1]; omega
          · rw [length_splice]
            · show _ + (putR p.2 12).length ≤ _; rw [show (putR p.2 12).length = 12 from e2]; omega
            · show _ + (putR p.1 12).length ≤ _; rw [show (putR p.1 12).length = 12 from e1]; omega
        · cases h
      · cases h
theorem pputs_off : ∀ (l : List (Int × Int)) (zs : List Int) (i : Nat) (x : List Int) (b n : Nat), zs.length = 512 → i + l.length ≤ 4 → (b + n ≤ 386 + 24 * i ∨ 386 + 24 * (i + l.length) ≤ b) → pputs zs i l = some x → sub x b n = sub zs b n
  | [], zs, i, x, b, n, _, _, _, h => by
    rw [pputs] at h; injection h with h; rw [← h]
  | p :: l, zs, i, x, b, n, hz, hl, hd, h => by
    rw [List.length_cons] at hl hd
    rw [pputs] at h
    split at h
    · cases h
    · split at h
      · split at h
        · rename_i _ h1 h2
          have e1 : (putR p.1 12).length = 12 := putR_len (m := 12) (putOk_fits h1)
          have e2 : (putR p.2 12).length = 12 := putR_len (m := 12) (putOk_fits h2)
          have hl1 : (splice zs (386 + 24 * i) (putR p.1 12)).length = 512 := by rw [length_splice _ _ _ (by omega), hz]
          have hl2 : (splice (splice zs (386 + 24 * i) (putR p.1 12)) (386 + 24 * i + 12) (putR p.2 12)).length = 512 := by rw [length_splice _ _ _ (by omega), hl1]
          rw [pputs_off l _ _ x b n hl2 (by omega) (by omega) h, sub_off e2 (by omega) (by omega), sub_off e1 (by omega) (by omega)]
        · cases h
      · cases h
theorem nought12 : numOk (nils 12) 0 12 0 most = true ∧ num (nils 12) 0 12 = 0 := by decide +kernel
theorem num_of_sub {xs ys : List Int} {a b n : Nat} (h : sub xs a n = sub ys b n) (lo up : Int) : num xs a n = num ys b n ∧ numOk xs a n lo up = numOk ys b n lo up := by
  have e : num xs a n = num ys b n := by unfold num; rw [h]
  refine ⟨e, ?_⟩
  unfold numOk
  rw [h, e]
theorem parts_back : ∀ (l : List (Int × Int)) (zs : List Int) (i : Nat) (x ys : List Int), zs.length = 512 → ys.length = 512 → i + l.length ≤ 4 → pputs zs i l = some x → (∀ b n, 386 + 24 * i ≤ b → b + n ≤ 482 → sub ys b n = sub x b n) →
    (∀ b n, 386 + 24 * (i + l.length) ≤ b → b + n ≤ 482 → sub x b n = nils n) → parts ys (386 + 24 * i) (4 - i) = some l
  | [], zs, i, x, ys, hz, hy, hl, h, hyx, h0 => by
    rcases Nat.lt_or_ge i 4 with h4 | h4
    · obtain ⟨r, hr⟩ : ∃ r, 4 - i = r + 1 := ⟨3 - i, by omega⟩
      have e1 := (hyx (386 + 24 * i) 12 (Nat.le_refl _) (by omega)).trans (h0 _ _ (by simp) (by omega))
      have e2 := (hyx (386 + 24 * i + 12) 12 (by omega) (by omega)).trans (h0 _ _ (by simp) (by omega))
      have z12 : sub (nils 12) 0 12 = nils 12 := rfl
      have n1 := num_of_sub (ys := nils 12) (b := 0) (e1.trans z12.symm) 0 most
      have n2 := num_of_sub (ys := nils 12) (b := 0) (e2.trans z12.symm) 0 most
      rw [hr, parts, if_neg (by omega), n1.2, n2.2, nought12.1, n1.1, n2.1, nought12.2]
      simp
    · rw [show 4 - i = 0 by omega]
      rfl
  | p :: l, zs, i, x, ys, hz, hy, hl, h, hyx, h0 => by
    rw [List.length_cons] at hl h0
    rw [pputs] at h
    split at h
    · cases h
    · rename_i hnz
      split at h
      · split at h
        · rename_i h1 h2
          have e1 : (putR p.1 12).length = 12 := putR_len (m := 12) (putOk_fits h1)
          have e2 : (putR p.2 12).length = 12 := putR_len (m := 12) (putOk_fits h2)
          have hl1 : (splice zs (386 + 24 * i) (putR p.1 12)).length = 512 := by rw [length_splice _ _ _ (by omega), hz]
          have hl2 : (splice (splice zs (386 + 24 * i) (putR p.1 12)) (386 + 24 * i + 12) (putR p.2 12)).length = 512 := by rw [length_splice _ _ _ (by omega), hl1]
          have s1 : sub ys (386 + 24 * i) 12 = putR p.1 12 := by
            rw [hyx _ _ (Nat.le_refl _) (by omega), pputs_off l _ _ x _ _ hl2 (by omega) (by omega) h, sub_off e2 (by omega) (by omega), sub_same e1 (by omega)]
          have s2 : sub ys (386 + 24 * i + 12) 12 = putR p.2 12 := by
            rw [hyx _ _ (by omega) (by omega), pputs_off l _ _ x _ _ hl2 (by omega) (by omega) h, sub_same e2 (by omega)]
          have r1 := read_back h1 (by decide) (by decide) (by decide) (Int.le_refl _) s1
          have r2 := read_back h2 (by decide) (by decide) (by decide) (Int.le_refl _) s2
          have ih := parts_back l _ (i + 1) x ys hl2 hy (by omega) h (fun b n hb hn => hyx b n (by omega) hn) (fun b n hb hn => h0 b n (by omega) hn)
          obtain ⟨r, hr⟩ : ∃ r, 4 - i = r + 1 := ⟨3 - i, by omega⟩
          rw [hr, parts, if_neg (by omega), r1.1, r2.1, r1.2, r2.2]
          simp only [Bool.and_self, if_true]
          rw [if_neg hnz, show 386 + 24 * i + 24 = 386 + 24 * (i + 1) by omega, show r = 4 - (i + 1) by omega, ih]
          rfl
        · cases h
      · cases h

/-! What was printed, step by step. -/
theorem bnd_ok {o : Option (List Int)} {e : Int} {f : List Int → Int × List Int} {r : List Int} (he : e ≠ 0) (h : bnd o e f = (0, r)) : ∃ z, o = some z ∧ f z = (0, r) := by
  cases o with
  | none => injection h with h; exact absurd h he
  | some z => exact ⟨z, rfl, h⟩
theorem chk_ok {b : Bool} {e : Int} {s : Int × List Int} {r : List Int} (he : e ≠ 0) (h : chk b e s = (0, r)) : b = true ∧ s = (0, r) := by
  cases b with
  | false => injection h with h; exact absurd h he
  | true => exact ⟨rfl, h⟩

/-- All that was laid. -/
structure Steps (h : Hdr) (zs : List Int) where
  z1 : List Int
  z2 : List Int
  z3 : List Int
  z4 : List Int
  z5 : List Int
  y1 : List Int
  y2 : List Int
  y3 : List Int
  y4 : List Int
  y5 : List Int
  y6 : List Int
  y7 : List Int
  y8 : List Int
  x : List Int
  kd : known h.kind = true ∧ may h.kind h.way = true
  t0 : putT ((nils 512).set 156 h.kind) 0 100 h.name = some z1
  t1 : putT z1 157 100 h.link = some z2
  t2 : putT z2 265 32 h.user = some z3
  t3 : putT z3 297 32 h.group = some z4
  t4 : putT z4 345 155 h.pre = some z5
  isbare : bare h = true
  isway : isWay h.way = true
  n0 : putN (splice z5 257 (magic h.way.toNat)) 100 8 true 0 most h.mode = some y1
  n1 : putN y1 108 8 true 0 most h.uid = some y2
  n2 : putN y2 116 8 true 0 most h.gid = some y3
  n3 : putN y3 124 12 true 0 maxSize h.size = some y4
  n4 : putN y4 136 12 true (-most) most h.mtime = some y5
  n5 : putN y5 329 8 (h.way != 0) 0 most h.major = some y6
  n6 : putN y6 337 8 (h.way != 0) 0 most h.minor = some y7
  n7 : putN y7 483 12 (h.kind == 83 && h.way == 2) 0 maxSize h.real = some y8
  isflat : flat h = true
  pp : putP y8 h.parts = some x
  out : zs = sld (if h.more = true then x.set 482 1 else x)
theorem steps {h : Hdr} {zs : List Int} (hp : hprint h = (0, zs)) : Nonempty (Steps h zs) := by
  unfold hprint at hp
  obtain ⟨k1, hp⟩ := chk_ok (by decide) hp
  obtain ⟨z1, t0, hp⟩ := bnd_ok (by decide) hp
  obtain ⟨z2, t1, hp⟩ := bnd_ok (by decide) hp
  obtain ⟨z3, t2, hp⟩ := bnd_ok (by decide) hp
  obtain ⟨z4, t3, hp⟩ := bnd_ok (by decide) hp
  obtain ⟨z5, t4, hp⟩ := bnd_ok (by decide) hp
  obtain ⟨k2, hp⟩ := chk_ok (by decide) hp
  obtain ⟨k3, hp⟩ := chk_ok (by decide) hp
  obtain ⟨y1, n0, hp⟩ := bnd_ok (by decide) hp
  obtain ⟨y2, n1, hp⟩ := bnd_ok (by decide) hp
  obtain ⟨y3, n2, hp⟩ := bnd_ok (by decide) hp
  obtain ⟨y4, n3, hp⟩ := bnd_ok (by decide) hp
  obtain ⟨y5, n4, hp⟩ := bnd_ok (by decide) hp
  obtain ⟨y6, n5, hp⟩ := bnd_ok (by decide) hp
  obtain ⟨y7, n6, hp⟩ := bnd_ok (by decide) hp
  obtain ⟨y8, n7, hp⟩ := bnd_ok (by decide) hp
  obtain ⟨k4, hp⟩ := chk_ok (by decide) hp
  obtain ⟨x, pp, hp⟩ := bnd_ok (by decide) hp
  injection hp with _ hp
  rw [Bool.and_eq_true] at k1
  exact ⟨⟨z1, z2, z3, z4, z5, y1, y2, y3, y4, y5, y6, y7, y8, x, k1, t0, t1, t2, t3, t4, k2, k3, n0, n1, n2, n3, n4, n5, n6, n7, k4, pp, hp.symm⟩⟩

section
variable {h : Hdr} {zs : List Int}
theorem Steps.len0 : ((nils 512).set 156 h.kind).length = 512 := by rw [List.length_set, nils_len]
theorem Steps.lz1 (s : Steps h zs) : s.z1.length = 512 := putT_len s.t0 Steps.len0 (by decide)
theorem Steps.lz2 (s : Steps h zs) : s.z2.length = 512 := putT_len s.t1 s.lz1 (by decide)
theorem Steps.lz3 (s : Steps h zs) : s.z3.length = 512 := putT_len s.t2 s.lz2 (by decide)
theorem Steps.lz4 (s : Steps h zs) : s.z4.length = 512 := putT_len s.t3 s.lz3 (by decide)
theorem Steps.lz5 (s : Steps h zs) : s.z5.length = 512 := putT_len s.t4 s.lz4 (by decide)
theorem Steps.ly0 (s : Steps h zs) : (splice s.z5 257 (magic h.way.toNat)).length = 512 := by rw [length_splice _ _ _ (by rw [magic_len', s.lz5]; decide), s.lz5]
theorem Steps.ly1 (s : Steps h zs) : s.y1.length = 512 := putN_len s.n0 s.ly0 (by decide)
theorem Steps.ly2 (s : Steps h zs) : s.y2.length = 512 := putN_len s.n1 s.ly1 (by decide)
theorem Steps.ly3 (s : Steps h zs) : s.y3.length = 512 := putN_len s.n2 s.ly2 (by decide)
theorem Steps.ly4 (s : Steps h zs) : s.y4.length = 512 := putN_len s.n3 s.ly3 (by decide)
theorem Steps.ly5 (s : Steps h zs) : s.y5.length = 512 := putN_len s.n4 s.ly4 (by decide)
theorem Steps.ly6 (s : Steps h zs) : s.y6.length = 512 := putN_len s.n5 s.ly5 (by decide)
theorem Steps.ly7 (s : Steps h zs) : s.y7.length = 512 := putN_len s.n6 s.ly6 (by decide)
theorem Steps.ly8 (s : Steps h zs) : s.y8.length = 512 := putN_len s.n7 s.ly7 (by decide)
theorem Steps.few (s : Steps h zs) : h.parts.length ≤ 4 ∧ pputs s.y8 0 h.parts = some s.x := by
  have hp := s.pp
  unfold putP at hp
  split at hp
  · exact ⟨by assumption, hp⟩
  · cases hp
theorem Steps.lx (s : Steps h zs) : s.x.length = 512 := pputs_len _ _ _ _ s.ly8 (by have := s.few.1; omega) s.few.2
theorem Steps.lw (s : Steps h zs) : (if h.more = true then s.x.set 482 1 else s.x).length = 512 := by split <;> simp [s.lx]
theorem Steps.lout (s : Steps h zs) : zs.length = 512 := by rw [s.out]; exact sld_len _
theorem Steps.off_x (s : Steps h zs) {b n : Nat} (hd : b + n ≤ 148 ∨ 156 ≤ b) (h4 : b + n ≤ 482 ∨ 483 ≤ b ∨ h.more = false) : sub zs b n = sub s.x b n := by
  refine (congrArg (fun q => sub q b n) s.out).trans ?_
  show sub (sld _) b n = _
  unfold sld
  rw [pad_self s.lw, sub_off (m := 8) (oct8_len _) (by rw [s.lw]; decide) hd]
  split
  · rename_i hm
    exact sub_set (by rcases h4 with h4 | h4 | h4; omega; omega; rw [hm] at h4; cases h4)
  · rfl
theorem Steps.off_p (s : Steps h zs) {b n : Nat} (hd : b + n ≤ 386 ∨ 482 ≤ b ∨ h.parts = []) : sub s.x b n = sub s.y8 b n := by
  rcases hd with hd | hd | hd
  · exact pputs_off _ _ _ _ _ _ s.ly8 (by have := s.few.1; omega) (.inl (by omega)) s.few.2
  · exact pputs_off _ _ _ _ _ _ s.ly8 (by have := s.few.1; omega) (.inr (by have := s.few.1; omega)) s.few.2
  · have := s.few.2
    rw [hd, pputs] at this
    injection this with this
    rw [this]
theorem Steps.offn0 (s : Steps h zs) {b n : Nat} (hd : b + n ≤ 100 ∨ 108 ≤ b) : sub s.y1 b n = sub (splice s.z5 257 (magic h.way.toNat)) b n := putN_off s.n0 s.ly0 (by decide) (by omega)
theorem Steps.offn1 (s : Steps h zs) {b n : Nat} (hd : b + n ≤ 108 ∨ 116 ≤ b) : sub s.y2 b n = sub s.y1 b n := putN_off s.n1 s.ly1 (by decide) (by omega)
theorem Steps.offn2 (s : Steps h zs) {b n : Nat} (hd : b + n ≤ 116 ∨ 124 ≤ b) : sub s.y3 b n = sub s.y2 b n := putN_off s.n2 s.ly2 (by decide) (by omega)
theorem Steps.offn3 (s : Steps h zs) {b n : Nat} (hd : b + n ≤ 124 ∨ 136 ≤ b) : sub s.y4 b n = sub s.y3 b n := putN_off s.n3 s.ly3 (by decide) (by omega)
theorem Steps.offn4 (s : Steps h zs) {b n : Nat} (hd : b + n ≤ 136 ∨ 148 ≤ b) : sub s.y5 b n = sub s.y4 b n := putN_off s.n4 s.ly4 (by decide) (by omega)
theorem Steps.offn5 (s : Steps h zs) {b n : Nat} (hd : b + n ≤ 329 ∨ 337 ≤ b) : sub s.y6 b n = sub s.y5 b n := putN_off s.n5 s.ly5 (by decide) (by omega)
theorem Steps.offn6 (s : Steps h zs) {b n : Nat} (hd : b + n ≤ 337 ∨ 345 ≤ b) : sub s.y7 b n = sub s.y6 b n := putN_off s.n6 s.ly6 (by decide) (by omega)
theorem Steps.offn7 (s : Steps h zs) {b n : Nat} (hd : b + n ≤ 483 ∨ 495 ≤ b) : sub s.y8 b n = sub s.y7 b n := putN_off s.n7 s.ly7 (by decide) (by omega)
theorem Steps.offg (s : Steps h zs) {b n : Nat} (hd : b + n ≤ 257 ∨ 265 ≤ b) : sub (splice s.z5 257 (magic h.way.toNat)) b n = sub s.z5 b n := sub_off (m := 8) (magic_len' _) (by rw [s.lz5]; decide) (by omega)
theorem Steps.offt0 (s : Steps h zs) {b n : Nat} (hd : b + n ≤ 0 ∨ 100 ≤ b) : sub s.z1 b n = sub ((nils 512).set 156 h.kind) b n := putT_off s.t0 Steps.len0 (by decide) (by omega)
theorem Steps.offt1 (s : Steps h zs) {b n : Nat} (hd : b + n ≤ 157 ∨ 257 ≤ b) : sub s.z2 b n = sub s.z1 b n := putT_off s.t1 s.lz1 (by decide) (by omega)
theorem Steps.offt2 (s : Steps h zs) {b n : Nat} (hd : b + n ≤ 265 ∨ 297 ≤ b) : sub s.z3 b n = sub s.z2 b n := putT_off s.t2 s.lz2 (by decide) (by omega)
theorem Steps.offt3 (s : Steps h zs) {b n : Nat} (hd : b + n ≤ 297 ∨ 329 ≤ b) : sub s.z4 b n = sub s.z3 b n := putT_off s.t3 s.lz3 (by decide) (by omega)
theorem Steps.offt4 (s : Steps h zs) {b n : Nat} (hd : b + n ≤ 345 ∨ 500 ≤ b) : sub s.z5 b n = sub s.z4 b n := putT_off s.t4 s.lz4 (by decide) (by omega)
end
end M
end Go.Proofs.YtkpnhggpcpjddaaGreatDoor

/-! What is printed is parsed: the header as a whole. -/
namespace Go.Proofs.YtkpnhggpcpjddaaGreatDoor
namespace M

theorem hdr_eq {a b : Hdr} (h0 : a.name = b.name) (h1 : a.mode = b.mode) (h2 : a.uid = b.uid) (h3 : a.gid = b.gid) (h4 : a.size = b.size) (h5 : a.mtime = b.mtime) (h6 : a.kind = b.kind) (h7 : a.link = b.link) (h8 : a.way = b.way) (h9 : a.user = b.user) (h10 : a.group = b.group) (h11 : a.major = b.major) (h12 : a.minor = b.minor) (h13 : a.pre = b.pre)
    (h14 : a.parts = b.parts) (h15 : a.more = b.more) (h16 : a.real = b.real) : a = b := by
  cases a
  cases b
  simp_all
theorem sub_in {zs f : List Int} {a b n : Nat} (h : a + f.length ≤ zs.length) (h1 : a ≤ b) (h2 : b + n ≤ a + f.length) : sub (splice zs a f) b n = sub f (b - a) n := by
  unfold sub
  apply List.ext_getElem?
  intro j
  rw [List.getElem?_take, List.getElem?_take]
  split
  · rename_i hj
    rw [List.getElem?_drop, List.getElem?_drop]
    unfold splice
    have hl : (zs.take a).length = a := by rw [List.length_take]; omega
    rw [List.getElem?_append_right (by omega), hl, List.getElem?_append_left (by omega)]
    congr 1
    omega
  · rfl
theorem byt_sub {xs ys : List Int} {i : Nat} (h : sub xs i 1 = sub ys i 1) : byt xs i = byt ys i := by
  have e : ∀ l : List Int, byt l i = (sub l i 1).getD 0 0 := by
    intro l
    unfold byt sub
    rw [List.getD_eq_getElem?_getD, List.getD_eq_getElem?_getD, List.getElem?_take, if_pos (by decide), List.getElem?_drop]
    rfl
  rw [e xs, e ys, h]
theorem putT_bd {zs z : List Int} {a m : Nat} {s : ByteArray} (h : putT zs a m s = some z) (hb : ∀ v ∈ zs, 0 ≤ v ∧ v ≤ 255) : ∀ v ∈ z, 0 ≤ v ∧ v ≤ 255 := by
  obtain ⟨l, _, rfl, _⟩ := putT_some h
  exact splice_bd hb (S.ints_bd l)
theorem putN_bd {zs z : List Int} {a m : Nat} {there : Bool} {lo up x : Int} (h : putN zs a m there lo up x = some z) (hb : ∀ v ∈ zs, 0 ≤ v ∧ v ≤ 255) : ∀ v ∈ z, 0 ≤ v ∧ v ≤ 255 := by
  unfold putN at h
  split at h
  · split at h
    · injection h with h; rw [← h]; exact splice_bd hb (putR_bd _ _)
    · cases h
  · split at h
    · injection h with h; rw [← h]; exact hb
    · cases h

section
variable {h : Hdr} {zs : List Int}
theorem Steps.way_ (s : Steps h zs) : 0 ≤ h.way ∧ h.way < 3 ∧ ((h.way.toNat : Nat) : Int) = h.way := by
  have hw := s.isway
  unfold isWay at hw
  rw [Bool.and_eq_true, decide_eq_true_eq, decide_eq_true_eq] at hw
  exact ⟨hw.1, hw.2, by omega⟩
/-- Where the kind is a sparse one's, the way is Gnu's; where it is none, there are no parts. -/
theorem Steps.sparse (s : Steps h zs) : (h.kind = 83 ∧ h.way = 2) ∨ (h.kind ≠ 83 ∧ h.parts = [] ∧ h.more = false) := by
  have hm := s.kd.2
  have hf := s.isflat
  by_cases hk : h.kind = 83
  · left
    unfold may at hm
    rw [hk] at hm
    exact ⟨hk, by simpa using hm⟩
  · right
    unfold flat at hf
    rw [show (h.kind == 83) = false by simpa using hk, Bool.false_or, Bool.and_eq_true, decide_eq_true_eq] at hf
    exact ⟨hk, List.eq_nil_of_length_eq_zero hf.1, by simpa using hf.2⟩
theorem Steps.bd (s : Steps h zs) : ∀ v ∈ zs, 0 ≤ v ∧ v ≤ 255 := by
  have b0 : ∀ v ∈ (nils 512).set 156 h.kind, 0 ≤ v ∧ v ≤ 255 := set_bd (nils_bd 512) (known_bd s.kd.1)
  have b5 := putT_bd s.t4 (putT_bd s.t3 (putT_bd s.t2 (putT_bd s.t1 (putT_bd s.t0 b0))))
  have c0 : ∀ v ∈ splice s.z5 257 (magic h.way.toNat), 0 ≤ v ∧ v ≤ 255 := splice_bd b5 (magic_bd _)
  have c8 := putN_bd s.n7 (putN_bd s.n6 (putN_bd s.n5 (putN_bd s.n4 (putN_bd s.n3 (putN_bd s.n2 (putN_bd s.n1 (putN_bd s.n0 c0)))))))
  have cx := putP_bd c8 s.pp
  intro v hv
  rw [s.out] at hv
  refine sld_bd ?_ v hv
  split
  · exact set_bd cx (by decide)
  · exact cx
theorem Steps.right_ (s : Steps h zs) : right zs = true := by
  have b0 : ∀ v ∈ (nils 512).set 156 h.kind, 0 ≤ v ∧ v ≤ 255 := set_bd (nils_bd 512) (known_bd s.kd.1)
  have b5 := putT_bd s.t4 (putT_bd s.t3 (putT_bd s.t2 (putT_bd s.t1 (putT_bd s.t0 b0))))
  have c0 : ∀ v ∈ splice s.z5 257 (magic h.way.toNat), 0 ≤ v ∧ v ≤ 255 := splice_bd b5 (magic_bd _)
  have c8 := putN_bd s.n7 (putN_bd s.n6 (putN_bd s.n5 (putN_bd s.n4 (putN_bd s.n3 (putN_bd s.n2 (putN_bd s.n1 (putN_bd s.n0 c0)))))))
  have cx := putP_bd c8 s.pp
  refine (congrArg right s.out).trans (right_sld ?_)
  split
  · exact set_bd cx (by decide)
  · exact cx
/-- From the block's end down to where the numbers begin. -/
theorem Steps.down (s : Steps h zs) {b n : Nat} (h1 : b + n ≤ 148 ∨ 156 ≤ b) (h2 : b + n ≤ 386) (d0 : b + n ≤ 100 ∨ 108 ≤ b) (d1 : b + n ≤ 108 ∨ 116 ≤ b) (d2 : b + n ≤ 116 ∨ 124 ≤ b) (d3 : b + n ≤ 124 ∨ 136 ≤ b) (d4 : b + n ≤ 136 ∨ 148 ≤ b) (d5 : b + n ≤ 329 ∨ 337 ≤ b) (d6 : b + n ≤ 337 ∨ 345 ≤ b) : sub zs b n = sub (splice s.z5 257 (magic h.way.toNat)) b n := by
  rw [s.off_x h1 (by omega), s.off_p (by omega), s.offn7 (by omega), s.offn6 d6, s.offn5 d5, s.offn4 d4, s.offn3 d3, s.offn2 d2, s.offn1 d1, s.offn0 d0]
theorem Steps.text0 (s : Steps h zs) : txt zs 0 100 = h.name := putT_back s.t0 Steps.len0 (by decide) (by
  rw [s.down (by decide) (by decide) (by decide) (by decide) (by decide) (by decide) (by decide) (by decide) (by decide) , s.offg (by decide), s.offt4 (by decide), s.offt3 (by decide), s.offt2 (by decide), s.offt1 (by decide)])
theorem Steps.text1 (s : Steps h zs) : txt zs 157 100 = h.link := putT_back s.t1 s.lz1 (by decide) (by
  rw [s.down (by decide) (by decide) (by decide) (by decide) (by decide) (by decide) (by decide) (by decide) (by decide) , s.offg (by decide), s.offt4 (by decide), s.offt3 (by decide), s.offt2 (by decide)])
theorem Steps.text2 (s : Steps h zs) : txt zs 265 32 = h.user := putT_back s.t2 s.lz2 (by decide) (by
  rw [s.down (by decide) (by decide) (by decide) (by decide) (by decide) (by decide) (by decide) (by decide) (by decide) , s.offg (by decide), s.offt4 (by decide), s.offt3 (by decide)])
theorem Steps.text3 (s : Steps h zs) : txt zs 297 32 = h.group := putT_back s.t3 s.lz3 (by decide) (by
  rw [s.down (by decide) (by decide) (by decide) (by decide) (by decide) (by decide) (by decide) (by decide) (by decide) , s.offg (by decide), s.offt4 (by decide)])
theorem Steps.text4 (s : Steps h zs) (hw : h.way = 1) : txt zs 345 155 = h.pre := putT_back s.t4 s.lz4 (by decide) (by
  have hsp := s.sparse
  have hq : h.kind ≠ 83 ∧ h.parts = [] ∧ h.more = false := by
    rcases hsp with hsp | hsp
    · have := hsp.2; omega
    · exact hsp
  have h8 := (putN_no s.n7 (by rw [show (h.kind == 83) = false by simpa using hq.1]; rfl)).1
  rw [s.off_x (by decide) (.inr (.inr hq.2.2)), s.off_p (.inr (.inr hq.2.1)), h8, s.offn6 (by decide), s.offn5 (by decide), s.offn4 (by decide), s.offn3 (by decide), s.offn2 (by decide), s.offn1 (by decide), s.offn0 (by decide), s.offg (by decide)])
theorem Steps.num0 (s : Steps h zs) : numOk zs 100 8 0 most = true ∧ num zs 100 8 = h.mode := putN_back s.n0 s.ly0 (by decide) (by decide) (by decide) (by decide) (by decide) rfl (by
  rw [s.off_x (by decide) (.inl (by decide)), s.off_p (.inl (by decide)), s.offn7 (by decide), s.offn6 (by decide), s.offn5 (by decide), s.offn4 (by decide), s.offn3 (by decide), s.offn2 (by decide), s.offn1 (by decide)])
theorem Steps.num1 (s : Steps h zs) : numOk zs 108 8 0 most = true ∧ num zs 108 8 = h.uid := putN_back s.n1 s.ly1 (by decide) (by decide) (by decide) (by decide) (by decide) rfl (by
  rw [s.off_x (by decide) (.inl (by decide)), s.off_p (.inl (by decide)), s.offn7 (by decide), s.offn6 (by decide), s.offn5 (by decide), s.offn4 (by decide), s.offn3 (by decide), s.offn2 (by decide)])
theorem Steps.num2 (s : Steps h zs) : numOk zs 116 8 0 most = true ∧ num zs 116 8 = h.gid := putN_back s.n2 s.ly2 (by decide) (by decide) (by decide) (by decide) (by decide) rfl (by
  rw [s.off_x (by decide) (.inl (by decide)), s.off_p (.inl (by decide)), s.offn7 (by decide), s.offn6 (by decide), s.offn5 (by decide), s.offn4 (by decide), s.offn3 (by decide)])
theorem Steps.num3 (s : Steps h zs) : numOk zs 124 12 0 maxSize = true ∧ num zs 124 12 = h.size := putN_back s.n3 s.ly3 (by decide) (by decide) (by decide) (by decide) (by decide) rfl (by
  rw [s.off_x (by decide) (.inl (by decide)), s.off_p (.inl (by decide)), s.offn7 (by decide), s.offn6 (by decide), s.offn5 (by decide), s.offn4 (by decide)])
theorem Steps.num4 (s : Steps h zs) : numOk zs 136 12 (-most) most = true ∧ num zs 136 12 = h.mtime := putN_back s.n4 s.ly4 (by decide) (by decide) (by decide) (by decide) (by decide) rfl (by
  rw [s.off_x (by decide) (.inl (by decide)), s.off_p (.inl (by decide)), s.offn7 (by decide), s.offn6 (by decide), s.offn5 (by decide)])
theorem Steps.num5 (s : Steps h zs) (ht : (h.way != 0) = true) : numOk zs 329 8 0 most = true ∧ num zs 329 8 = h.major := putN_back s.n5 s.ly5 (by decide) (by decide) (by decide) (by decide) (by decide) ht (by
  rw [s.off_x (by decide) (.inl (by decide)), s.off_p (.inl (by decide)), s.offn7 (by decide), s.offn6 (by decide)])
theorem Steps.num6 (s : Steps h zs) (ht : (h.way != 0) = true) : numOk zs 337 8 0 most = true ∧ num zs 337 8 = h.minor := putN_back s.n6 s.ly6 (by decide) (by decide) (by decide) (by decide) (by decide) ht (by
  rw [s.off_x (by decide) (.inl (by decide)), s.off_p (.inl (by decide)), s.offn7 (by decide)])
theorem Steps.num7 (s : Steps h zs) (ht : (h.kind == 83 && h.way == 2) = true) : numOk zs 483 12 0 maxSize = true ∧ num zs 483 12 = h.real := putN_back s.n7 s.ly7 (by decide) (by decide) (by decide) (by decide) (by decide) ht (by
  rw [s.off_x (by decide) (.inr (.inl (by decide))), s.off_p (.inr (.inl (by decide)))])
theorem Steps.magic_ (s : Steps h zs) : sub zs 257 8 = magic h.way.toNat := by
  rw [s.down (by decide) (by decide) (by decide) (by decide) (by decide) (by decide) (by decide) (by decide) (by decide) , sub_same (magic_len' _) (by rw [s.lz5]; decide)]
theorem Steps.way_at (s : Steps h zs) : way zs = some h.way.toNat := by
  have hw := s.way_
  unfold way
  rw [if_pos s.lout, s.magic_]
  have : h.way.toNat = 0 ∨ h.way.toNat = 1 ∨ h.way.toNat = 2 := by omega
  rcases this with e | e | e <;> rw [e] <;> rfl
theorem Steps.byte_kind (s : Steps h zs) : byt zs 156 = h.kind := by
  have e : sub zs 156 1 = sub ((nils 512).set 156 h.kind) 156 1 := by
    rw [s.down (by decide) (by decide) (by decide) (by decide) (by decide) (by decide) (by decide) (by decide) (by decide) , s.offg (by decide), s.offt4 (by decide), s.offt3 (by decide), s.offt2 (by decide), s.offt1 (by decide), s.offt0 (by decide)]
  rw [byt_sub e, byt_set_same (by rw [nils_len]; decide)]
theorem Steps.kind_ (s : Steps h zs) : kind zs = h.kind := by
  unfold kind
  rw [s.byte_kind, if_neg]
  intro e
  have := s.kd.1
  rw [e] at this
  exact absurd this (by decide)
theorem Steps.parts_ (s : Steps h zs) (hs : h.kind = 83 ∧ h.way = 2) : parts zs 386 4 = some h.parts := by
  have hb := s.isbare
  have hbl : blank h.pre = true := by
    unfold bare at hb
    rw [Bool.and_eq_true, Bool.and_eq_true, hs.2] at hb
    simpa using hb.2.2
  have h4 := (putT_blank s.t4 hbl).1
  refine parts_back h.parts s.y8 0 s.x zs s.ly8 s.lout (by have := s.few.1; omega) s.few.2 (fun b n hb1 hn => s.off_x (.inr (by omega)) (.inl hn)) (fun b n hb1 hn => ?_)
  rw [pputs_off _ _ _ _ _ _ s.ly8 (by have := s.few.1; omega) (.inr hb1) s.few.2, s.offn7 (by omega), s.offn6 (by omega), s.offn5 (by omega), s.offn4 (by omega), s.offn3 (by omega), s.offn2 (by omega), s.offn1 (by omega), s.offn0 (by omega), s.offg (by omega), h4,
    sub_in (by rw [nils_len, s.lz4]; decide) (by omega) (by rw [nils_len]; omega), sub_nils _ _ _ (by omega)]
theorem Steps.more_ (s : Steps h zs) (hs : h.kind = 83 ∧ h.way = 2) : (byt zs 482 != 0) = h.more := by
  have hb := s.isbare
  have hbl : blank h.pre = true := by
    unfold bare at hb
    rw [Bool.and_eq_true, Bool.and_eq_true, hs.2] at hb
    simpa using hb.2.2
  have h4 := (putT_blank s.t4 hbl).1
  have e : byt zs 482 = byt (if h.more = true then s.x.set 482 1 else s.x) 482 := by
    refine (congrArg (fun q => byt q 482) s.out).trans ?_
    show byt (sld _) 482 = _
    unfold sld
    rw [pad_self s.lw]
    exact byt_off (m := 8) (oct8_len _) (by rw [s.lw]; decide) (by decide)
  rw [e]
  cases hm : h.more with
  | true =>
    rw [if_pos rfl, byt_set_same (by rw [s.lx]; decide)]
    rfl
  | false =>
    rw [if_neg (by decide)]
    have e2 : sub s.x 482 1 = nils 1 := by
      rw [s.off_p (.inr (.inl (by decide))), s.offn7 (by decide), s.offn6 (by decide), s.offn5 (by decide), s.offn4 (by decide), s.offn3 (by decide), s.offn2 (by decide), s.offn1 (by decide), s.offn0 (by decide), s.offg (by decide), h4,
        sub_in (by rw [nils_len, s.lz4]; decide) (by decide) (by rw [nils_len]; decide), sub_nils _ _ _ (by decide)]
    rw [byt_sub (ys := nils 512) (e2.trans (sub_nils 482 1 512 (by decide)).symm)]
    decide +kernel
theorem Steps.all_ok (s : Steps h zs) : allOk zs h.kind h.way = true := by
  unfold allOk rnOk
  rw [s.num0.1, s.num1.1, s.num2.1, s.num3.1, s.num4.1]
  simp only [Bool.true_and]
  have h5 : (!(h.way != 0) || numOk zs 329 8 0 most) = true := by
    cases hw : h.way != 0 with
    | false => rfl
    | true => rw [(s.num5 hw).1]; rfl
  have h6 : (!(h.way != 0) || numOk zs 337 8 0 most) = true := by
    cases hw : h.way != 0 with
    | false => rfl
    | true => rw [(s.num6 hw).1]; rfl
  have h7 : (!(h.kind == 83 && h.way == 2) || numOk zs 483 12 0 maxSize) = true := by
    cases hw : h.kind == 83 && h.way == 2 with
    | false => rfl
    | true => rw [(s.num7 hw).1]; rfl
  rw [h5, h6, h7]
  rfl
theorem Steps.told_ (s : Steps h zs) : told zs h.way.toNat = { h with parts := [], more := false } := by
  unfold told
  rw [s.kind_, s.way_.2.2]
  have hb := s.isbare
  unfold bare at hb
  rw [Bool.and_eq_true, Bool.and_eq_true] at hb
  obtain ⟨hb1, hb2, hb3⟩ := hb
  refine hdr_eq s.text0 s.num0.2 s.num1.2 s.num2.2 s.num3.2 s.num4.2 rfl s.text1 rfl ?_ ?_ ?_ ?_ ?_ rfl rfl ?_
  · show (if h.way != 0 then txt zs 265 32 else ⟨#[]⟩) = h.user
    cases hw : h.way != 0 with
    | true => rw [if_pos rfl, s.text2]
    | false =>
      rw [hw, Bool.false_or] at hb1
      rw [if_neg (by decide), (putT_blank s.t2 hb1).2]
  · show (if h.way != 0 then txt zs 297 32 else ⟨#[]⟩) = h.group
    cases hw : h.way != 0 with
    | true => rw [if_pos rfl, s.text3]
    | false =>
      rw [hw, Bool.false_or] at hb2
      rw [if_neg (by decide), (putT_blank s.t3 hb2).2]
  · show (if h.way != 0 then num zs 329 8 else 0) = h.major
    cases hw : h.way != 0 with
    | true => rw [if_pos rfl, (s.num5 hw).2]
    | false => rw [if_neg (by decide), (putN_no s.n5 hw).2]
  · show (if h.way != 0 then num zs 337 8 else 0) = h.minor
    cases hw : h.way != 0 with
    | true => rw [if_pos rfl, (s.num6 hw).2]
    | false => rw [if_neg (by decide), (putN_no s.n6 hw).2]
  · show (if h.way == 1 then txt zs 345 155 else ⟨#[]⟩) = h.pre
    cases hw : h.way == 1 with
    | true => rw [if_pos rfl, s.text4 (by simpa using hw)]
    | false =>
      rw [hw, Bool.false_or] at hb3
      rw [if_neg (by decide), (putT_blank s.t4 hb3).2]
  · show (if (h.kind == 83 && h.way == 2) then num zs 483 12 else 0) = h.real
    cases hw : h.kind == 83 && h.way == 2 with
    | true => rw [if_pos rfl, (s.num7 hw).2]
    | false => rw [if_neg (by decide), (putN_no s.n7 hw).2]
/-- What is printed is parsed. -/
theorem Steps.back (s : Steps h zs) : hparse zs = (0, h) := by
  unfold hparse
  rw [if_neg (by rw [s.lout]; decide), if_neg (by rw [s.right_]; decide), if_neg (by rw [s.kind_, s.kd.1]; decide), s.way_at]
  simp only
  rw [s.kind_, s.way_.2.2, if_neg (by rw [s.all_ok]; decide), if_neg (by rw [s.kd.2]; decide)]
  rcases s.sparse with hs | hs
  · rw [if_pos hs.1, s.parts_ hs, s.told_, s.more_ hs]
  · rw [if_neg hs.1, s.told_, ← hs.2.1, ← hs.2.2]
end
theorem print_back {h : Hdr} {zs : List Int} (hp : hprint h = (0, zs)) : Nonempty (Steps h zs) := steps hp
end M
end Go.Proofs.YtkpnhggpcpjddaaGreatDoor

/-! Which error Print answers, and when it answers none. -/
namespace Go.Proofs.YtkpnhggpcpjddaaGreatDoor
open Go.RowKit Go.Lib
namespace M
def tOk (m : Nat) (s : ByteArray) : Bool := (S.M.put s.data.toList m).isSome
def nOk (m : Nat) (there : Bool) (lo up x : Int) : Bool := if there = true then putOk x m lo up else decide (x = 0)
def pOk : List (Int × Int) → Bool
  | [] => true
  | p :: l => !(p.1 == 0 && p.2 == 0) && (putOk p.1 12 0 most && (putOk p.2 12 0 most && pOk l))
def st (b : Bool) (e r : Int) : Int := if b = true then r else e
theorem putT_isSome (zs : List Int) (a m : Nat) (s : ByteArray) : (putT zs a m s).isSome = tOk m s := by
  unfold putT tOk
  cases S.M.put s.data.toList m <;> rfl
theorem putN_isSome (zs : List Int) (a m : Nat) (there : Bool) (lo up x : Int) : (putN zs a m there lo up x).isSome = nOk m there lo up x := by
  unfold putN nOk
  cases there
  · by_cases hx : x = 0 <;> simp [hx]
  · cases putOk x m lo up <;> rfl
theorem pputs_isSome : ∀ (l : List (Int × Int)) (zs : List Int) (i : Nat), (pputs zs i l).isSome = pOk l
  | [], _, _ => rfl
  | p :: l, zs, i => by
    by_cases h : p.1 = 0 ∧ p.2 = 0
    · simp [pputs_zero h, pOk, h.1, h.2]
    · have e : (p.1 == 0 && p.2 == 0) = false := by simpa using h
      cases h1 : putOk p.1 12 0 most with
      | false => rw [pputs_bad1 h h1]; simp [pOk, e, h1]
      | true =>
        cases h2 : putOk p.2 12 0 most with
        | false => rw [pputs_bad2 h h1 h2]; simp [pOk, e, h1, h2]
        | true => rw [pputs_next h h1 h2, pputs_isSome l]; simp [pOk, e, h1, h2]
theorem putP_isSome (zs : List Int) (l : List (Int × Int)) : (putP zs l).isSome = (decide (l.length ≤ 4) && pOk l) := by
  unfold putP
  by_cases h : l.length ≤ 4
  · rw [if_pos h, pputs_isSome]; simp [h]
  · rw [if_neg h]; simp [h]
theorem bnd_err {o : Option (List Int)} {b : Bool} {e r : Int} {f : List Int → Int × List Int} (ho : o.isSome = b) (h : ∀ z, (f z).1 = r) : (bnd o e f).1 = st b e r := by
  subst ho
  cases o with
  | none => rfl
  | some z => exact h z
theorem chk_err {b : Bool} {e r : Int} {q : Int × List Int} (h : q.1 = r) : (chk b e q).1 = st b e r := by
  cases b
  · rfl
  · exact h
/-- The error's number. -/
def herr (h : Hdr) : Int :=
  st (known h.kind && may h.kind h.way) 31 <| st (tOk 100 h.name) 33 <| st (tOk 100 h.link) 33 <| st (tOk 32 h.user) 33 <| st (tOk 32 h.group) 33 <| st (tOk 155 h.pre) 33 <|
  st (bare h) 32 <| st (isWay h.way) 32 <| st (nOk 8 true 0 most h.mode) 32 <| st (nOk 8 true 0 most h.uid) 32 <| st (nOk 8 true 0 most h.gid) 32 <| st (nOk 12 true 0 maxSize h.size) 32 <|
  st (nOk 12 true (-most) most h.mtime) 32 <| st (nOk 8 (h.way != 0) 0 most h.major) 32 <| st (nOk 8 (h.way != 0) 0 most h.minor) 32 <| st (nOk 12 (h.kind == 83 && h.way == 2) 0 maxSize h.real) 32 <|
  st (flat h) 32 <| st (decide (h.parts.length ≤ 4) && pOk h.parts) 32 0
theorem hprint_err (h : Hdr) : (hprint h).1 = herr h :=
  chk_err <| bnd_err (putT_isSome _ _ _ _) fun _ => bnd_err (putT_isSome _ _ _ _) fun _ => bnd_err (putT_isSome _ _ _ _) fun _ => bnd_err (putT_isSome _ _ _ _) fun _ => bnd_err (putT_isSome _ _ _ _) fun _ =>
  chk_err <| chk_err <| bnd_err (putN_isSome _ _ _ _ _ _ _) fun _ => bnd_err (putN_isSome _ _ _ _ _ _ _) fun _ => bnd_err (putN_isSome _ _ _ _ _ _ _) fun _ => bnd_err (putN_isSome _ _ _ _ _ _ _) fun _ =>
  bnd_err (putN_isSome _ _ _ _ _ _ _) fun _ => bnd_err (putN_isSome _ _ _ _ _ _ _) fun _ => bnd_err (putN_isSome _ _ _ _ _ _ _) fun _ => bnd_err (putN_isSome _ _ _ _ _ _ _) fun _ =>
  chk_err <| bnd_err (putP_isSome _ _) fun _ => rfl
theorem st_ne {b : Bool} {e r : Int} (he : e ≠ 0) (h : st b e r = 0) : b = true ∧ r = 0 := by
  cases b
  · exact absurd h he
  · exact ⟨rfl, h⟩
/-- An error, and nothing: or no error. -/
theorem chk_nil {b : Bool} {e : Int} {q : Int × List Int} (he : e ≠ 0) (h : q.1 ≠ 0 → q.2 = []) : (chk b e q).1 ≠ 0 → (chk b e q).2 = [] := by
  cases b
  · exact fun _ => rfl
  · exact h
/-- One of HeadKinds. -/
def kindH (k s : Int) : Hdr := { name := ⟨#[97]⟩, kind := k, way := 1, size := s }
theorem size_ok (s : Int) (h0 : 0 ≤ s) (h1 : s ≤ 65535) : nOk 12 true 0 maxSize s = true := by
  have : octFits s 12 = true := by
    unfold octFits
    have e : s / 8 ^ ((12 : Int).toNat - 1) = 0 := by
      rw [show (8 : Int) ^ ((12 : Int).toNat - 1) = 8589934592 from by decide]
      omega
    rw [e]
    simp only [Bool.and_eq_true, decide_eq_true_eq]
    exact ⟨⟨⟨⟨by decide, by decide⟩, h0⟩, Int.le_trans h1 (by decide)⟩, trivial⟩
  unfold nOk putOk putFits
  rw [if_pos rfl, show ((12 : Nat) : Int) = 12 from rfl, this]
  simp only [Bool.true_or, Bool.true_and, Bool.and_eq_true, decide_eq_true_eq]
  exact ⟨h0, Int.le_trans h1 (by decide)⟩
theorem kindH_no (k s : Int) (h : known k = false ∨ k = 83) : hprint (kindH k s) = (31, []) := by
  have : (known (kindH k s).kind && may (kindH k s).kind (kindH k s).way) = false := by
    rcases h with h | h
    · show (known k && may k 1) = false
      rw [h]; rfl
    · subst h; rfl
  unfold hprint
  rw [this]; rfl
theorem kindH_yes (k s : Int) (hk : known k = true) (h83 : k ≠ 83) (h0 : 0 ≤ s) (h1 : s ≤ 65535) : (hprint (kindH k s)).1 = 0 := by
  rw [hprint_err]
  have e1 : (known k && may k 1) = true := by rw [hk]; simp [may, h83]
  have e2 : tOk 100 ⟨#[97]⟩ = true := by decide +kernel
  have e3 : tOk 100 ⟨#[]⟩ = true := by decide +kernel
  have e4 : tOk 32 ⟨#[]⟩ = true := by decide +kernel
  have e5 : tOk 155 ⟨#[]⟩ = true := by decide +kernel
  have e6 : nOk 8 true 0 most 0 = true := by decide +kernel
  have e7 : nOk 12 true (-most) most 0 = true := by decide +kernel
  have e8 : (k == 83 && (1 : Int) == 2) = false := by simp
  have e9 : flat (kindH k s) = true := by simp [flat, kindH]
  have e10 : bare (kindH k s) = true := by rfl
  have e11 : isWay 1 = true := by decide
  unfold herr
  rw [e9, e10]
  dsimp only [kindH]
  rw [e1, e2, e3, e4, e5, e6, e7, e8, e11, size_ok s h0 h1, show ((1 : Int) != 0) = true from rfl, e6]
  rfl
end M
end Go.Proofs.YtkpnhggpcpjddaaGreatDoor

/-! How the document lays a header, and that it is laid as it should be: plain mathematics. -/
namespace Go.Proofs.YtkpnhggpcpjddaaGreatDoor
open Go.RowKit Go.Lib
namespace M

/-- Laid one behind the other. -/
def lays (z : List Int) (l : List (Nat × List Int)) : List Int := l.foldl (fun z p => splice z p.1 p.2) z
theorem lays_nil (z : List Int) : lays z [] = z := rfl
theorem lays_cons (z : List Int) (p : Nat × List Int) (l : List (Nat × List Int)) : lays z (p :: l) = lays (splice z p.1 p.2) l := rfl
theorem lays_app (z : List Int) (a b : List (Nat × List Int)) : lays z (a ++ b) = lays (lays z a) b := by unfold lays; rw [List.foldl_append]
def Fit (p : Nat × List Int) : Prop := p.1 + p.2.length ≤ 512
def Off (p q : Nat × List Int) : Prop := p.1 + p.2.length ≤ q.1 ∨ q.1 + q.2.length ≤ p.1
theorem splice_in {zs f : List Int} {a i : Nat} (h : a + f.length ≤ zs.length) (h1 : a ≤ i) (h2 : i < a + f.length) : (splice zs a f)[i]? = f[i - a]? := by
  unfold splice
  have hl : (zs.take a).length = a := by rw [List.length_take]; omega
  rw [List.getElem?_append_right (by omega), hl, List.getElem?_append_left (by omega)]
theorem splice_swap {z f g : List Int} {a b : Nat} (hz : z.length = 512) (ha : a + f.length ≤ 512) (hb : b + g.length ≤ 512) (hd : a + f.length ≤ b ∨ b + g.length ≤ a) : splice (splice z a f) b g = splice (splice z b g) a f := by
  have l1 : (splice z a f).length = 512 := by rw [length_splice _ _ _ (by omega), hz]
  have l2 : (splice z b g).length = 512 := by rw [length_splice _ _ _ (by omega), hz]
  apply List.ext_getElem?
  intro i
  by_cases h1 : a ≤ i ∧ i < a + f.length
  · rw [splice_get (by omega) (by omega), splice_in (by omega) h1.1 h1.2, splice_in (by omega) h1.1 h1.2]
  · by_cases h2 : b ≤ i ∧ i < b + g.length
    · rw [splice_in (by omega) h2.1 h2.2, splice_get (by omega) (by omega), splice_in (by omega) h2.1 h2.2]
    · rw [splice_get (by omega) (by omega), splice_get (by omega) (by omega), splice_get (by omega) (by omega), splice_get (by omega) (by omega)]
theorem splice_self {z f : List Int} {a : Nat} (h : a + f.length ≤ z.length) (e : sub z a f.length = f) : splice z a f = z := by
  apply List.ext_getElem?
  intro i
  by_cases h1 : a ≤ i ∧ i < a + f.length
  · rw [splice_in h h1.1 h1.2]
    have := congrArg (fun l => l[i - a]?) e
    unfold sub at this
    rw [List.getElem?_take, if_pos (by omega), List.getElem?_drop, Nat.add_sub_cancel' h1.1] at this
    exact this.symm
  · exact splice_get h (by omega)
theorem set_splice {z : List Int} {i : Nat} (x : Int) (h : i < z.length) : z.set i x = splice z i [x] := by
  rw [List.set_eq_take_append_cons_drop, if_pos h]
  rfl
theorem lays_len : ∀ (l : List (Nat × List Int)) (z : List Int), z.length = 512 → (∀ q ∈ l, Fit q) → (lays z l).length = 512
  | [], _, hz, _ => hz
  | p :: l, z, hz, hf => by
    rw [lays_cons]
    have h0 := hf p (List.mem_cons_self ..)
    unfold Fit at h0
    exact lays_len l _ (by rw [length_splice _ _ _ (by omega), hz]) (fun q hq => hf q (List.mem_cons_of_mem _ hq))
theorem lays_swap (p : Nat × List Int) (hp : Fit p) : ∀ (l : List (Nat × List Int)) (z : List Int), z.length = 512 → (∀ q ∈ l, Fit q ∧ Off p q) → lays (splice z p.1 p.2) l = splice (lays z l) p.1 p.2
  | [], _, _, _ => rfl
  | q :: l, z, hz, hf => by
    have h0 := hf q (List.mem_cons_self ..)
    unfold Fit at h0 hp
    rw [lays_cons, lays_cons, splice_swap hz hp h0.1 h0.2]
    exact lays_swap p hp l _ (by rw [length_splice _ _ _ (by omega), hz]) (fun q hq => hf q (List.mem_cons_of_mem _ hq))
theorem lays_bd : ∀ (l : List (Nat × List Int)) (z : List Int), (∀ v ∈ z, 0 ≤ v ∧ v ≤ 255) → (∀ q ∈ l, ∀ v ∈ q.2, 0 ≤ v ∧ v ≤ 255) → ∀ v ∈ lays z l, 0 ≤ v ∧ v ≤ 255
  | [], _, hz, _ => hz
  | p :: l, z, hz, hf => by
    rw [lays_cons]
    exact lays_bd l _ (splice_bd hz (hf p (List.mem_cons_self ..))) (fun q hq => hf q (List.mem_cons_of_mem _ hq))

/-! Texts. -/
def tq (h : Hdr) : List (ByteArray × Nat × Nat) := [(h.name, 0, 100), (h.link, 157, 100), (h.user, 265, 32), (h.group, 297, 32), (h.pre, 345, 155)]
def textL (s : ByteArray) (m : Nat) : List UInt8 := s.data.toList ++ List.replicate (m - s.data.toList.length) 0
def tl' (x : ByteArray × Nat × Nat) : Nat × List Int := (x.2.1, S.ints (textL x.1 x.2.2))
theorem put_eq {s : ByteArray} {m : Nat} {l : List UInt8} (h : S.M.put s.data.toList (m : Int) = some l) : l = textL s m := by
  unfold S.M.put at h
  split at h
  · injection h with h
    rw [← h]
    unfold textL
    rfl
  · cases h
theorem tOk_put {s : ByteArray} {m : Nat} (h : tOk m s = true) : S.M.put s.data.toList (m : Int) = some (textL s m) := by
  unfold tOk at h
  obtain ⟨l, hl⟩ := Option.isSome_iff_exists.1 h
  rw [hl, put_eq hl]
theorem tOk_len {s : ByteArray} {m : Nat} (h : tOk m s = true) : (S.ints (textL s m)).length = m := by
  rw [S.ints_length]
  exact put_len (tOk_put h)
theorem textL_blank {s : ByteArray} (m : Nat) (hb : blank s = true) : S.ints (textL s m) = nils m := by
  have hs : s = ⟨#[]⟩ := toList_inj (by rw [ByteArray.toList_eq ⟨#[]⟩]; simpa [blank] using hb)
  subst hs
  unfold textL S.ints nils
  simp
/-- The document's texts. -/
def dt : List Int → List (ByteArray × Nat × Nat) → Option (List Int)
  | z, [] => some z
  | z, x :: r => if tOk x.2.2 x.1 = true then dt (if blank x.1 = true then z else splice z x.2.1 (S.ints (textL x.1 x.2.2))) r else none
theorem dt_iff : ∀ (l : List (ByteArray × Nat × Nat)) (z y : List Int), z.length = 512 → l.Pairwise (fun x y => x.2.1 + x.2.2 ≤ y.2.1) → (∀ x ∈ l, x.2.1 + x.2.2 ≤ 512 ∧ sub z x.2.1 x.2.2 = nils x.2.2) →
    (dt z l = some y ↔ (∀ x ∈ l, tOk x.2.2 x.1 = true) ∧ y = lays z (l.map tl'))
  | [], z, y, _, _, _ => ⟨fun e => ⟨fun _ h => (nomatch h), (Option.some.inj e).symm⟩, fun e => congrArg some e.2.symm⟩
  | x :: r, z, y, hz, hp, hn => by
    rw [List.pairwise_cons] at hp
    show (if tOk x.2.2 x.1 = true then dt (if blank x.1 = true then z else splice z x.2.1 (S.ints (textL x.1 x.2.2))) r else none) = some y ↔ _
    cases ht : tOk x.2.2 x.1 with
    | false =>
      rw [if_neg (by decide)]
      refine ⟨fun e => (nomatch e), fun e => ?_⟩
      have := e.1 x (List.mem_cons_self ..)
      rw [ht] at this
      cases this
    | true =>
      rw [if_pos rfl]
      have hl := tOk_len ht
      have h0 := hn x (List.mem_cons_self ..)
      have e : (if blank x.1 = true then z else splice z x.2.1 (S.ints (textL x.1 x.2.2))) = splice z x.2.1 (S.ints (textL x.1 x.2.2)) := by
        split
        · rename_i hb
          rw [textL_blank _ hb]
          exact (splice_self (by rw [nils_len]; omega) (by rw [nils_len]; exact h0.2)).symm
        · rfl
      rw [e, dt_iff r _ y (by rw [length_splice _ _ _ (by omega), hz]) hp.2 (fun q hq => ⟨(hn q (List.mem_cons_of_mem _ hq)).1, by
        rw [sub_off hl (by omega) (.inr (hp.1 q hq))]
        exact (hn q (List.mem_cons_of_mem _ hq)).2⟩)]
      rw [List.map_cons, lays_cons]
      show (_ ∧ y = _) ↔ (_ ∧ y = _)
      constructor
      · rintro ⟨h1, h2⟩
        refine ⟨fun q hq => ?_, h2⟩
        rcases List.mem_cons.1 hq with rfl | hq
        · exact ht
        · exact h1 q hq
      · rintro ⟨h1, h2⟩
        exact ⟨fun q hq => h1 q (List.mem_cons_of_mem _ hq), h2⟩

/-! Numbers. -/
def pq : Nat → List (Int × Int) → List (Int × Nat × Nat)
  | _, [] => []
  | i, p :: l => (p.1, 386 + 24 * i, 12) :: (p.2, 398 + 24 * i, 12) :: pq (i + 1) l
theorem pq_snoc : ∀ (l : List (Int × Int)) (i : Nat) (p : Int × Int), pq i (l ++ [p]) = pq i l ++ [(p.1, 386 + 24 * (i + l.length), 12), (p.2, 398 + 24 * (i + l.length), 12)]
  | [], i, p => rfl
  | q :: l, i, p => by
    rw [List.cons_append, pq, pq, pq_snoc l (i + 1) p, List.length_cons, show i + (l.length + 1) = i + 1 + l.length by omega]
    rfl
theorem pq_at : ∀ (l : List (Int × Int)) (i : Nat) (x : Int × Nat × Nat), x ∈ pq i l → 386 + 24 * i ≤ x.2.1 ∧ x.2.1 + 12 ≤ 386 + 24 * (i + l.length) ∧ x.2.2 = 12 ∧ ∃ p ∈ l, x.1 = p.1 ∨ x.1 = p.2
  | [], _, _, h => nomatch h
  | p :: l, i, x, h => by
    rw [pq] at h
    rw [List.length_cons]
    rcases List.mem_cons.1 h with rfl | h
    · exact ⟨Nat.le_refl _, by show 386 + 24 * i + 12 ≤ _; omega, rfl, p, List.mem_cons_self .., .inl rfl⟩
    · rcases List.mem_cons.1 h with rfl | h
      · exact ⟨by show _ ≤ 398 + 24 * i; omega, by show 398 + 24 * i + 12 ≤ _; omega, rfl, p, List.mem_cons_self .., .inr rfl⟩
      · obtain ⟨h1, h2, h3, q, hq, h4⟩ := pq_at l (i + 1) x h
        exact ⟨by omega, by omega, h3, q, List.mem_cons_of_mem _ hq, h4⟩
def nq5 (h : Hdr) : List (Int × Nat × Nat) := [(h.mode, 100, 8), (h.uid, 108, 8), (h.gid, 116, 8), (h.size, 124, 12), (h.mtime, 136, 12)]
def nq7 (h : Hdr) : List (Int × Nat × Nat) := nq5 h ++ (if (decide (0 < h.way)) = true then [(h.major, 329, 8), (h.minor, 337, 8)] else [])
def nqR (h : Hdr) (k : Nat) : List (Int × Nat × Nat) := nq7 h ++ ((h.real, 483, 12) :: pq 0 (h.parts.take k))
def nq (h : Hdr) : List (Int × Nat × Nat) := if (h.kind == 83) = true then nqR h h.parts.length else nq7 h
def dOk (x : Int × Nat × Nat) : Bool := putFits x.1 x.2.2 && (decide (0 ≤ x.1) || x.2.1 == 136)
def nl (x : Int × Nat × Nat) : Nat × List Int := (x.2.1, putR x.1 x.2.2)
/-- The document's numbers. -/
def dn : List Int → List (Int × Nat × Nat) → Option (List Int)
  | z, [] => some z
  | z, x :: r => if dOk x = true then dn (splice z x.2.1 (putR x.1 x.2.2)) r else none
theorem dn_iff : ∀ (l : List (Int × Nat × Nat)) (z y : List Int), dn z l = some y ↔ (∀ x ∈ l, dOk x = true) ∧ y = lays z (l.map nl)
  | [], z, y => ⟨fun e => ⟨fun _ h => (nomatch h), (Option.some.inj e).symm⟩, fun e => congrArg some e.2.symm⟩
  | x :: r, z, y => by
    show (if dOk x = true then dn (splice z x.2.1 (putR x.1 x.2.2)) r else none) = some y ↔ _
    cases ht : dOk x with
    | false =>
      rw [if_neg (by decide)]
      refine ⟨fun e => (nomatch e), fun e => ?_⟩
      have := e.1 x (List.mem_cons_self ..)
      rw [ht] at this
      cases this
    | true =>
      rw [if_pos rfl, dn_iff r _ y, List.map_cons, lays_cons]
      constructor
      · rintro ⟨h1, h2⟩
        refine ⟨fun q hq => ?_, h2⟩
        rcases List.mem_cons.1 hq with rfl | hq
        · exact ht
        · exact h1 q hq
      · rintro ⟨h1, h2⟩
        exact ⟨fun q hq => h1 q (List.mem_cons_of_mem _ hq), h2⟩

/-! What may be. -/
def f1 (h : Hdr) : Bool := decide (0 ≤ h.way ∧ h.way ≤ 2 ∧ h.size ≤ maxSize ∧ h.real ≤ maxSize ∧ h.parts.length ≤ 4)
def f2 (h : Hdr) : Bool := decide ((h.way = 0 → blank h.user = true ∧ blank h.group = true ∧ h.major = 0 ∧ h.minor = 0) ∧ (h.way ≠ 1 → blank h.pre = true))
def f3 (l : List (Int × Int)) : Bool := l.all fun p => !(p.1 == 0 && p.2 == 0)
def f4 (h : Hdr) : Bool := decide (h.kind = 83 ∨ (h.parts.length = 0 ∧ h.more = false ∧ h.real = 0))
def fits (h : Hdr) : Bool := f1 h && (f2 h && (f3 h.parts && f4 h))
def dprint (h : Hdr) : Option (List Int) :=
  if (known h.kind && may h.kind h.way) = true then (dt (nils 512) (tq h)).bind fun z => if fits h = true then (dn z (nq h)).map fun y => sld (if h.more = true then (splice (y.set 156 h.kind) 257 (magic h.way.toNat)).set 482 1 else splice (y.set 156 h.kind) 257 (magic h.way.toNat)) else none
  else none
theorem fits_bd {x : Int} {m : Nat} (h : putFits x m = true) : -most ≤ x ∧ x ≤ most := by
  unfold putFits at h
  rw [Bool.or_eq_true] at h
  rcases h with h | h
  · unfold octFits at h
    simp only [Bool.and_eq_true, decide_eq_true_eq] at h
    have h0 := h.1.1.2
    have h1 := h.1.2
    unfold most at *
    omega
  · unfold binFits at h
    simp only [Bool.and_eq_true, decide_eq_true_eq, beq_iff_eq] at h
    have h1 := h.1.2
    have h2 := h.2
    rw [binN_yes h1] at h2
    unfold binOk at h1
    simp only [Bool.and_eq_true, decide_eq_true_eq] at h1
    rw [h2] at h1
    exact h1.2
theorem putOk_iff {x : Int} {m : Nat} {lo up : Int} : putOk x m lo up = true ↔ putFits x m = true ∧ lo ≤ x ∧ x ≤ up := by
  unfold putOk
  rw [Bool.and_eq_true, Bool.and_eq_true, decide_eq_true_eq, decide_eq_true_eq]
theorem dOk_iff {x : Int} {a m : Nat} : dOk (x, a, m) = true ↔ putFits x m = true ∧ (0 ≤ x ∨ a = 136) := by
  unfold dOk
  rw [Bool.and_eq_true, Bool.or_eq_true, decide_eq_true_eq, beq_iff_eq]
theorem pOk_iff : ∀ (l : List (Int × Int)) (i : Nat), pOk l = true ↔ f3 l = true ∧ ∀ x ∈ pq i l, dOk x = true
  | [], _ => by simp [pOk, f3, pq]
  | p :: l, i => by
    have ih := pOk_iff l (i + 1)
    have e1 : putOk p.1 12 0 most = true ↔ dOk (p.1, 386 + 24 * i, 12) = true := by
      rw [putOk_iff, dOk_iff]
      exact ⟨fun h => ⟨h.1, .inl h.2.1⟩, fun h => ⟨h.1, by omega, (fits_bd h.1).2⟩⟩
    have e2 : putOk p.2 12 0 most = true ↔ dOk (p.2, 398 + 24 * i, 12) = true := by
      rw [putOk_iff, dOk_iff]
      exact ⟨fun h => ⟨h.1, .inl h.2.1⟩, fun h => ⟨h.1, by omega, (fits_bd h.1).2⟩⟩
    have e3 : f3 (p :: l) = (!(p.1 == 0 && p.2 == 0) && f3 l) := rfl
    have e4 : pOk (p :: l) = (!(p.1 == 0 && p.2 == 0) && (putOk p.1 12 0 most && (putOk p.2 12 0 most && pOk l))) := rfl
    have e5 : pq i (p :: l) = (p.1, 386 + 24 * i, 12) :: (p.2, 398 + 24 * i, 12) :: pq (i + 1) l := rfl
    rw [e3, e4, e5, Bool.and_eq_true, Bool.and_eq_true, Bool.and_eq_true, Bool.and_eq_true, e1, e2, ih, List.forall_mem_cons, List.forall_mem_cons]
    constructor
    · rintro ⟨a, b, c, d, e⟩; exact ⟨⟨a, d⟩, b, c, e⟩
    · rintro ⟨⟨a, d⟩, b, c, e⟩; exact ⟨a, b, c, d, e⟩
theorem f1_iff {h : Hdr} : f1 h = true ↔ (0 ≤ h.way ∧ h.way ≤ 2 ∧ h.size ≤ maxSize ∧ h.real ≤ maxSize ∧ h.parts.length ≤ 4) := by unfold f1; rw [decide_eq_true_eq]
theorem f2_iff {h : Hdr} : f2 h = true ↔ ((h.way = 0 → blank h.user = true ∧ blank h.group = true ∧ h.major = 0 ∧ h.minor = 0) ∧ (h.way ≠ 1 → blank h.pre = true)) := by unfold f2; rw [decide_eq_true_eq]
theorem f4_iff {h : Hdr} : f4 h = true ↔ (h.kind = 83 ∨ (h.parts.length = 0 ∧ h.more = false ∧ h.real = 0)) := by unfold f4; rw [decide_eq_true_eq]
theorem fits_iff {h : Hdr} : fits h = true ↔ f1 h = true ∧ f2 h = true ∧ f3 h.parts = true ∧ f4 h = true := by
  unfold fits; rw [Bool.and_eq_true, Bool.and_eq_true, Bool.and_eq_true]
theorem st_zero {b : Bool} {e r : Int} (he : e ≠ 0) : st b e r = 0 ↔ b = true ∧ r = 0 := by
  constructor
  · exact st_ne he
  · rintro ⟨rfl, h⟩; exact h
theorem bare_iff {h : Hdr} : bare h = true ↔ (h.way = 0 → blank h.user = true ∧ blank h.group = true) ∧ (h.way ≠ 1 → blank h.pre = true) := by
  unfold bare
  simp only [Bool.and_eq_true, Bool.or_eq_true, bne_iff_ne, ne_eq, beq_iff_eq]
  constructor
  · rintro ⟨a, b, c⟩
    refine ⟨fun e => ⟨?_, ?_⟩, fun e => ?_⟩
    · rcases a with a | a; exact absurd e a; exact a
    · rcases b with a | a; exact absurd e a; exact a
    · rcases c with a | a; exact absurd a e; exact a
  · rintro ⟨a, b⟩
    refine ⟨?_, ?_, ?_⟩
    · by_cases e : h.way = 0; exact .inr (a e).1; exact .inl e
    · by_cases e : h.way = 0; exact .inr (a e).2; exact .inl e
    · by_cases e : h.way = 1; exact .inl e; exact .inr (b e)
theorem isWay_iff {h : Hdr} : isWay h.way = true ↔ 0 ≤ h.way ∧ h.way < 3 := by
  unfold isWay
  rw [Bool.and_eq_true, decide_eq_true_eq, decide_eq_true_eq]
theorem flat_iff {h : Hdr} : flat h = true ↔ h.kind = 83 ∨ (h.parts.length = 0 ∧ h.more = false) := by
  unfold flat
  simp
theorem nOk_yes {m : Nat} {lo up x : Int} : nOk m true lo up x = true ↔ putFits x m = true ∧ lo ≤ x ∧ x ≤ up := by
  unfold nOk; rw [if_pos rfl]; exact putOk_iff
theorem may_iff {k v : Int} : may k v = true ↔ (k = 83 → v = 2) := by
  unfold may
  simp only [Bool.or_eq_true, bne_iff_ne, ne_eq, beq_iff_eq]
  constructor
  · rintro (a | a) e; exact absurd e a; exact a
  · intro h; by_cases e : k = 83; exact .inr (h e); exact .inl e
/-- All that is asked of a header, by the document's words. -/
def Asked (h : Hdr) : Prop := (known h.kind = true ∧ may h.kind h.way = true) ∧ (∀ x ∈ tq h, tOk x.2.2 x.1 = true) ∧ fits h = true ∧ ∀ x ∈ nq h, dOk x = true
theorem asked_iff (h : Hdr) : herr h = 0 ↔ Asked h := by
  unfold herr Asked
  rw [st_zero (by decide), st_zero (by decide), st_zero (by decide), st_zero (by decide), st_zero (by decide), st_zero (by decide), st_zero (by decide), st_zero (by decide), st_zero (by decide), st_zero (by decide), st_zero (by decide), st_zero (by decide), st_zero (by decide), st_zero (by decide), st_zero (by decide), st_zero (by decide), st_zero (by decide), st_zero (by decide),
    Bool.and_eq_true, Bool.and_eq_true, fits_iff, f1_iff, f2_iff, f4_iff, bare_iff, isWay_iff, flat_iff, nOk_yes, nOk_yes, nOk_yes, nOk_yes, nOk_yes, decide_eq_true_eq, pOk_iff h.parts 0]
  have et : (∀ x ∈ tq h, tOk x.2.2 x.1 = true) ↔ (tOk 100 h.name = true ∧ tOk 100 h.link = true ∧ tOk 32 h.user = true ∧ tOk 32 h.group = true ∧ tOk 155 h.pre = true) := by
    unfold tq
    simp only [List.forall_mem_cons]
    constructor
    · rintro ⟨a, b, c, d, e, _⟩; exact ⟨a, b, c, d, e⟩
    · rintro ⟨a, b, c, d, e⟩; exact ⟨a, b, c, d, e, fun _ h => nomatch h⟩
  have e5 : (∀ x ∈ nq5 h, dOk x = true) ↔ ((putFits h.mode 8 = true ∧ 0 ≤ h.mode) ∧ (putFits h.uid 8 = true ∧ 0 ≤ h.uid) ∧ (putFits h.gid 8 = true ∧ 0 ≤ h.gid) ∧ (putFits h.size 12 = true ∧ 0 ≤ h.size) ∧ putFits h.mtime 12 = true) := by
    unfold nq5
    simp only [List.forall_mem_cons, dOk_iff]
    constructor
    · rintro ⟨⟨a, a'⟩, ⟨b, b'⟩, ⟨c, c'⟩, ⟨d, d'⟩, ⟨e, _⟩, _⟩; exact ⟨⟨a, by omega⟩, ⟨b, by omega⟩, ⟨c, by omega⟩, ⟨d, by omega⟩, e⟩
    · rintro ⟨⟨a, a'⟩, ⟨b, b'⟩, ⟨c, c'⟩, ⟨d, d'⟩, e⟩; exact ⟨⟨a, .inl a'⟩, ⟨b, .inl b'⟩, ⟨c, .inl c'⟩, ⟨d, .inl d'⟩, ⟨e, .inr trivial⟩, fun _ h => nomatch h⟩
  have e7 : (∀ x ∈ nq7 h, dOk x = true) ↔ ((∀ x ∈ nq5 h, dOk x = true) ∧ (0 < h.way → (putFits h.major 8 = true ∧ 0 ≤ h.major) ∧ (putFits h.minor 8 = true ∧ 0 ≤ h.minor))) := by
    unfold nq7
    rw [List.forall_mem_append]
    refine and_congr_right fun _ => ?_
    by_cases hw : 0 < h.way
    · rw [if_pos (by simpa using hw)]
      simp only [List.forall_mem_cons, dOk_iff]
      constructor
      · rintro ⟨⟨a, a'⟩, ⟨b, b'⟩, _⟩ _; exact ⟨⟨a, by omega⟩, ⟨b, by omega⟩⟩
      · intro h; obtain ⟨⟨a, a'⟩, ⟨b, b'⟩⟩ := h hw; exact ⟨⟨a, .inl a'⟩, ⟨b, .inl b'⟩, fun _ h => nomatch h⟩
    · rw [if_neg (by simpa using hw)]
      exact ⟨fun _ h => absurd h hw, fun _ _ h => nomatch h⟩
  have en : (∀ x ∈ nq h, dOk x = true) ↔ ((∀ x ∈ nq7 h, dOk x = true) ∧ (h.kind = 83 → (putFits h.real 12 = true ∧ 0 ≤ h.real) ∧ ∀ x ∈ pq 0 h.parts, dOk x = true)) := by
    unfold nq nqR
    by_cases hk : h.kind = 83
    · rw [if_pos (by simpa using hk), List.forall_mem_append, List.forall_mem_cons, dOk_iff, List.take_length]
      refine and_congr_right fun _ => ?_
      constructor
      · rintro ⟨⟨a, a'⟩, b⟩ _; exact ⟨⟨a, by omega⟩, b⟩
      · intro h; obtain ⟨⟨a, a'⟩, b⟩ := h hk; exact ⟨⟨a, .inl a'⟩, b⟩
    · rw [if_neg (by simpa using hk)]
      exact ⟨fun h => ⟨h, fun e => absurd e hk⟩, fun h => h.1⟩
  rw [et, en, e7, e5]
  have m0 : (0 : Int) ≤ most := by decide
  constructor
  · rintro ⟨k1, t1, t2, t3, t4, t5, ⟨b1, b2⟩, ⟨w0, w2⟩, ⟨n1, n1', _⟩, ⟨n2, n2', _⟩, ⟨n3, n3', _⟩, ⟨n4, n4', n4''⟩, ⟨n5, _⟩, n6, n7, n8, fl, ⟨p4, p3, pp⟩, _⟩
    have hmay := may_iff.1 k1.2
    have e6 : h.way = 0 → h.major = 0 ∧ h.minor = 0 := by
      intro e
      rw [e] at n6 n7
      exact ⟨by simpa [nOk] using n6, by simpa [nOk] using n7⟩
    have e6' : 0 < h.way → (putFits h.major 8 = true ∧ 0 ≤ h.major) ∧ (putFits h.minor 8 = true ∧ 0 ≤ h.minor) := by
      intro e
      have e' : (h.way != 0) = true := by rw [bne_iff_ne]; omega
      rw [e', nOk_yes] at n6 n7
      exact ⟨⟨n6.1, n6.2.1⟩, ⟨n7.1, n7.2.1⟩⟩
    have e8 : h.kind = 83 → (putFits h.real 12 = true ∧ 0 ≤ h.real ∧ h.real ≤ maxSize) := by
      intro e
      have e' : (h.kind == 83 && h.way == 2) = true := by rw [e, hmay e]; rfl
      rw [e', nOk_yes] at n8
      exact n8
    have e8' : h.kind ≠ 83 → h.real = 0 := by
      intro e
      have e' : (h.kind == 83 && h.way == 2) = false := by rw [Bool.and_eq_false_iff]; exact .inl (by simpa using e)
      rw [e'] at n8
      simpa [nOk] using n8
    refine ⟨k1, ⟨t1, t2, t3, t4, t5⟩, ⟨⟨w0, by omega, n4'', ?_, p4⟩, ⟨fun e => ⟨(b1 e).1, (b1 e).2, e6 e⟩, b2⟩, p3, ?_⟩, ⟨⟨⟨n1, n1'⟩, ⟨n2, n2'⟩, ⟨n3, n3'⟩, ⟨n4, n4'⟩, n5⟩, e6'⟩, fun e => ⟨⟨(e8 e).1, (e8 e).2.1⟩, pp⟩⟩
    · by_cases e : h.kind = 83
      · exact (e8 e).2.2
      · rw [e8' e]; decide
    · rcases fl with fl | fl
      · exact .inl fl
      · by_cases e : h.kind = 83
        · exact .inl e
        · exact .inr ⟨fl.1, fl.2, e8' e⟩
  · rintro ⟨k1, ⟨t1, t2, t3, t4, t5⟩, ⟨⟨w0, w2, s4, r4, p4⟩, ⟨b1, b2⟩, p3, f4⟩, ⟨⟨⟨n1, n1'⟩, ⟨n2, n2'⟩, ⟨n3, n3'⟩, ⟨n4, n4'⟩, n5⟩, e6⟩, e8⟩
    have hmay := may_iff.1 k1.2
    refine ⟨k1, t1, t2, t3, t4, t5, ⟨fun e => ⟨(b1 e).1, (b1 e).2.1⟩, b2⟩, ⟨w0, by omega⟩, ⟨n1, n1', (fits_bd n1).2⟩, ⟨n2, n2', (fits_bd n2).2⟩, ⟨n3, n3', (fits_bd n3).2⟩, ⟨n4, n4', s4⟩, ⟨n5, fits_bd n5⟩, ?_, ?_, ?_, ?_, ⟨p4, p3, ?_⟩, rfl⟩
    · by_cases e : h.way = 0
      · rw [e, (b1 e).2.2.1]; rfl
      · have e' : (h.way != 0) = true := by rw [bne_iff_ne]; exact e
        have := e6 (by omega)
        rw [e', nOk_yes]
        exact ⟨this.1.1, this.1.2, (fits_bd this.1.1).2⟩
    · by_cases e : h.way = 0
      · rw [e, (b1 e).2.2.2]; rfl
      · have e' : (h.way != 0) = true := by rw [bne_iff_ne]; exact e
        have := e6 (by omega)
        rw [e', nOk_yes]
        exact ⟨this.2.1, this.2.2, (fits_bd this.2.1).2⟩
    · by_cases e : h.kind = 83
      · have e' : (h.kind == 83 && h.way == 2) = true := by rw [e, hmay e]; rfl
        have := e8 e
        rw [e', nOk_yes]
        exact ⟨this.1.1, this.1.2, r4⟩
      · have e' : (h.kind == 83 && h.way == 2) = false := by rw [Bool.and_eq_false_iff]; exact .inl (by simpa using e)
        rcases f4 with f4 | f4
        · exact absurd f4 e
        · rw [e', f4.2.2]; rfl
    · rcases f4 with f4 | f4
      · exact .inl f4
      · exact .inr ⟨f4.1, f4.2.1⟩
    · by_cases e : h.kind = 83
      · exact (e8 e).2
      · rcases f4 with f4 | f4
        · exact absurd f4 e
        · rw [List.length_eq_zero_iff.1 f4.1]
          exact fun _ h => nomatch h
end M
end Go.Proofs.YtkpnhggpcpjddaaGreatDoor

/-! The document's Print, as data, is the header's as data. -/
namespace Go.Proofs.YtkpnhggpcpjddaaGreatDoor
open Go.RowKit Go.Lib
namespace M

theorem putT_lays {zs z : List Int} {a m : Nat} {s : ByteArray} (h : putT zs a m s = some z) : z = splice zs a (S.ints (textL s m)) := by
  obtain ⟨l, hl, rfl, _⟩ := putT_some h
  rw [put_eq hl]
theorem putN_lays {zs z : List Int} {a m : Nat} {there : Bool} {lo up x : Int} (h : putN zs a m there lo up x = some z) : z = if there = true then splice zs a (putR x m) else zs := by
  unfold putN at h
  split at h
  · rename_i ht
    rw [if_pos ht]
    split at h
    · exact (Option.some.inj h).symm
    · cases h
  · rename_i ht
    rw [if_neg ht]
    split at h
    · exact (Option.some.inj h).symm
    · cases h
theorem pputs_lays : ∀ (l : List (Int × Int)) (i : Nat) (y x : List Int), pputs y i l = some x → x = lays y ((pq i l).map nl)
  | [], _, y, x, h => (Option.some.inj h).symm
  | p :: l, i, y, x, h => by
    by_cases h0 : p.1 = 0 ∧ p.2 = 0
    · rw [pputs_zero h0] at h; cases h
    · cases h1 : putOk p.1 12 0 most with
      | false => rw [pputs_bad1 h0 h1] at h; cases h
      | true =>
        cases h2 : putOk p.2 12 0 most with
        | false => rw [pputs_bad2 h0 h1 h2] at h; cases h
        | true =>
          rw [pputs_next h0 h1 h2] at h
          have := pputs_lays l (i + 1) _ _ h
          rw [this, show 386 + 24 * i + 12 = 398 + 24 * i by omega]
          rfl
theorem nq_at {h : Hdr} (h4 : h.parts.length ≤ 4) : ∀ x ∈ nq h, (100 ≤ x.2.1 ∧ x.2.1 + x.2.2 ≤ 148) ∨ (329 ≤ x.2.1 ∧ x.2.1 + x.2.2 ≤ 495) := by
  have a5 : ∀ x ∈ nq5 h, (100 ≤ x.2.1 ∧ x.2.1 + x.2.2 ≤ 148) ∨ (329 ≤ x.2.1 ∧ x.2.1 + x.2.2 ≤ 495) := by
    unfold nq5
    intro x hx
    simp only [List.mem_cons, List.not_mem_nil, or_false] at hx
    rcases hx with rfl | rfl | rfl | rfl | rfl <;> exact .inl ⟨Nat.le_of_ble_eq_true rfl, Nat.le_of_ble_eq_true rfl⟩
  have a7 : ∀ x ∈ nq7 h, (100 ≤ x.2.1 ∧ x.2.1 + x.2.2 ≤ 148) ∨ (329 ≤ x.2.1 ∧ x.2.1 + x.2.2 ≤ 495) := by
    unfold nq7
    intro x hx
    rcases List.mem_append.1 hx with hx | hx
    · exact a5 x hx
    · split at hx
      · simp only [List.mem_cons, List.not_mem_nil, or_false] at hx
        rcases hx with rfl | rfl <;> exact .inr ⟨Nat.le_of_ble_eq_true rfl, Nat.le_of_ble_eq_true rfl⟩
      · cases hx
  unfold nq nqR
  intro x hx
  split at hx
  · rcases List.mem_append.1 hx with hx | hx
    · exact a7 x hx
    · rcases List.mem_cons.1 hx with rfl | hx
      · exact .inr ⟨Nat.le_of_ble_eq_true rfl, Nat.le_of_ble_eq_true rfl⟩
      · obtain ⟨p1, p2, p3, _⟩ := pq_at _ _ _ hx
        rw [List.take_length] at p2
        refine .inr ⟨by omega, by omega⟩
  · exact a7 x hx
theorem fit_n {h : Hdr} (h4 : h.parts.length ≤ 4) (hd : ∀ x ∈ nq h, dOk x = true) : ∀ q ∈ (nq h).map nl, (100 ≤ q.1 ∧ q.1 + q.2.length ≤ 148) ∨ (329 ≤ q.1 ∧ q.1 + q.2.length ≤ 495) := by
  intro q hq
  obtain ⟨x, hx, rfl⟩ := List.mem_map.1 hq
  have h1 := hd x hx
  have h2 := nq_at h4 x hx
  unfold dOk at h1
  rw [Bool.and_eq_true] at h1
  have h3 := putR_len h1.1
  have e1 : (nl x).1 = x.2.1 := rfl
  have e2 : (nl x).2.length = x.2.2 := h3
  rw [e1, e2]
  exact h2
theorem fit_t {h : Hdr} (ht : ∀ x ∈ tq h, tOk x.2.2 x.1 = true) : ∀ q ∈ (tq h).map tl', q.1 + q.2.length ≤ 100 ∨ (157 ≤ q.1 ∧ q.1 + q.2.length ≤ 257) ∨ (265 ≤ q.1 ∧ q.1 + q.2.length ≤ 500) := by
  intro q hq
  obtain ⟨x, hx, rfl⟩ := List.mem_map.1 hq
  have h1 := ht x hx
  have h3 := tOk_len h1
  have e1 : (tl' x).1 = x.2.1 := rfl
  have e2 : (tl' x).2.length = x.2.2 := h3
  rw [e1, e2]
  unfold tq at hx
  simp only [List.mem_cons, List.not_mem_nil, or_false] at hx
  rcases hx with rfl | rfl | rfl | rfl | rfl
  · exact .inl (Nat.le_of_ble_eq_true rfl)
  · exact .inr (.inl ⟨Nat.le_of_ble_eq_true rfl, Nat.le_of_ble_eq_true rfl⟩)
  · exact .inr (.inr ⟨Nat.le_of_ble_eq_true rfl, Nat.le_of_ble_eq_true rfl⟩)
  · exact .inr (.inr ⟨Nat.le_of_ble_eq_true rfl, Nat.le_of_ble_eq_true rfl⟩)
  · exact .inr (.inr ⟨Nat.le_of_ble_eq_true rfl, Nat.le_of_ble_eq_true rfl⟩)
theorem tq_rise (h : Hdr) : (tq h).Pairwise (fun x y => x.2.1 + x.2.2 ≤ y.2.1) := by
  unfold tq
  simp
theorem tq_none (h : Hdr) : ∀ x ∈ tq h, x.2.1 + x.2.2 ≤ 512 ∧ sub (nils 512) x.2.1 x.2.2 = nils x.2.2 := by
  unfold tq
  intro x hx
  simp only [List.mem_cons, List.not_mem_nil, or_false] at hx
  rcases hx with rfl | rfl | rfl | rfl | rfl <;> exact ⟨Nat.le_of_ble_eq_true rfl, sub_nils _ _ _ (Nat.le_of_ble_eq_true rfl)⟩
/-- What the numbers make of a block. -/
theorem steps_x {h : Hdr} {zs : List Int} (s : Steps h zs) : s.x = lays ((nils 512).set 156 h.kind) ((tq h).map tl' ++ (257, magic h.way.toNat) :: (nq h).map nl) := by
  have e5 : s.z5 = lays ((nils 512).set 156 h.kind) ((tq h).map tl') := by
    rw [putT_lays s.t4, putT_lays s.t3, putT_lays s.t2, putT_lays s.t1, putT_lays s.t0]
    rfl
  have y5 : s.y5 = lays (splice s.z5 257 (magic h.way.toNat)) ((nq5 h).map nl) := by
    rw [putN_lays s.n4, putN_lays s.n3, putN_lays s.n2, putN_lays s.n1, putN_lays s.n0]
    rfl
  have y7 : s.y7 = lays (splice s.z5 257 (magic h.way.toNat)) ((nq7 h).map nl) := by
    unfold nq7
    rw [List.map_append, lays_app, ← y5, putN_lays s.n6, putN_lays s.n5]
    have hw := isWay_iff.1 s.isway
    by_cases hz : h.way = 0
    · rw [if_neg (by simp [hz]), if_neg (by simp [hz]), if_neg (by simp [hz])]; rfl
    · rw [if_pos (by simp [hz]), if_pos (by simp [hz]), if_pos (by simp; omega)]; rfl
  have hp := s.few.2
  have ex : s.x = lays (splice s.z5 257 (magic h.way.toNat)) ((nq h).map nl) := by
    rw [pputs_lays _ _ _ _ hp, putN_lays s.n7, y7]
    unfold nq nqR
    have hm := may_iff.1 s.kd.2
    by_cases hk : h.kind = 83
    · rw [if_pos (by simp [hk, hm hk]), if_pos (by simp [hk]), List.take_length, List.map_append, lays_app, List.map_cons, lays_cons]; rfl
    · rw [if_neg (by simp [hk]), if_neg (by simp [hk])]
      have hf := flat_iff.1 s.isflat
      rcases hf with hf | hf
      · exact absurd hf hk
      · rw [List.length_eq_zero_iff.1 hf.1]; rfl
  rw [ex, e5, lays_app, lays_cons]
theorem dprint_of {h : Hdr} {zs : List Int} (hp : hprint h = (0, zs)) : dprint h = some zs := by
  obtain ⟨s⟩ := steps hp
  have he : herr h = 0 := by rw [← hprint_err, hp]
  obtain ⟨k, ht, hf, hn⟩ := (asked_iff h).1 he
  have h4 := (f1_iff.1 (fits_iff.1 hf).1).2.2.2.2
  have e1 : dt (nils 512) (tq h) = some (lays (nils 512) ((tq h).map tl')) := (dt_iff (tq h) _ _ (nils_len 512) (tq_rise h) (tq_none h)).2 ⟨ht, rfl⟩
  have e2 : dn (lays (nils 512) ((tq h).map tl')) (nq h) = some (lays (lays (nils 512) ((tq h).map tl')) ((nq h).map nl)) := (dn_iff _ _ _).2 ⟨hn, rfl⟩
  have fn := fit_n h4 hn
  have ft := fit_t ht
  have hl1 : (lays (nils 512) ((tq h).map tl')).length = 512 := lays_len _ _ (nils_len 512) (fun q hq => by have := ft q hq; unfold Fit; omega)
  have hl2 : (lays (lays (nils 512) ((tq h).map tl')) ((nq h).map nl)).length = 512 := lays_len _ _ hl1 (fun q hq => by have := fn q hq; unfold Fit; omega)
  have hmg := magic_len' h.way.toNat
  have ex : s.x = splice ((lays (lays (nils 512) ((tq h).map tl')) ((nq h).map nl)).set 156 h.kind) 257 (magic h.way.toNat) := by
    rw [steps_x s, set_splice _ (by rw [nils_len]; decide), set_splice _ (by rw [hl2]; decide)]
    have w1 := lays_swap (156, [h.kind]) (by unfold Fit; simp) ((tq h).map tl' ++ (257, magic h.way.toNat) :: (nq h).map nl) (nils 512) (nils_len 512) (by
      intro q hq
      unfold Fit Off
      simp only [List.length_singleton]
      rcases List.mem_append.1 hq with hq | hq
      · have := ft q hq; omega
      · rcases List.mem_cons.1 hq with rfl | hq
        · simp only [hmg]; omega
        · have := fn q hq; omega)
    dsimp only at w1
    rw [w1, lays_app, lays_cons]
    have w2 := lays_swap (257, magic h.way.toNat) (by unfold Fit; simp only [hmg]; omega) ((nq h).map nl) (lays (nils 512) ((tq h).map tl')) hl1 (by
      intro q hq
      unfold Fit Off
      simp only [hmg]
      have := fn q hq; omega)
    dsimp only at w2 ⊢
    rw [w2, splice_swap hl2 (by rw [hmg]; omega) (by simp) (.inr (by simp))]
  unfold dprint
  rw [if_pos (by rw [Bool.and_eq_true]; exact k), e1, Option.bind_some, if_pos hf, e2, Option.map_some, ← ex]
  exact congrArg some s.out.symm
theorem of_dprint {h : Hdr} {zs : List Int} (hd : dprint h = some zs) : hprint h = (0, zs) := by
  have he : herr h = 0 := by
    rw [asked_iff]
    unfold dprint at hd
    split at hd
    · rename_i hk
      rw [Bool.and_eq_true] at hk
      obtain ⟨z, hz, hd⟩ := Option.bind_eq_some_iff.1 hd
      split at hd
      · rename_i hf
        obtain ⟨y, hy, _⟩ := Option.map_eq_some_iff.1 hd
        exact ⟨hk, ((dt_iff (tq h) _ _ (nils_len 512) (tq_rise h) (tq_none h)).1 hz).1, hf, ((dn_iff _ _ _).1 hy).1⟩
      · cases hd
    · cases hd
  have e0 : hprint h = (0, (hprint h).2) := by
    have := hprint_err h
    rw [he] at this
    rw [← this]
  rw [dprint_of e0] at hd
  rw [e0, Option.some.inj hd]
theorem dprint_none {h : Hdr} (hd : dprint h = none) : (hprint h).1 ≠ 0 := by
  intro e
  have e0 : hprint h = (0, (hprint h).2) := by rw [← e]
  rw [dprint_of e0] at hd
  cases hd
end M
end Go.Proofs.YtkpnhggpcpjddaaGreatDoor

/-! How much a block is like a header: plain mathematics. -/
namespace Go.Proofs.YtkpnhggpcpjddaaGreatDoor
open Go.RowKit Go.Lib
namespace M

/-- A field that has something. -/
def has (zs : List Int) (a m : Nat) : Bool := (sub zs a m).any fun z => !(z == 0 || z == 32)
def numIs (zs : List Int) (a m : Nat) : Bool := parOk (sub zs a m) && has zs a m
def wayIs (zs : List Int) : Bool := (way zs).isSome && ((((way zs).getD 0 : Nat) : Int) != 0)
def nameIs (zs : List Int) : Bool := !((txt zs 0 100).toList == []) && S.M.plain (txt zs 0 100).data.toList
/-- What gives points, and how many. -/
def sig (zs : List Int) : Nat → Bool
  | 0 => right zs
  | 1 => toldOk zs && !right zs
  | 2 => wayIs zs
  | 3 => known (byt zs 156)
  | 4 => nameIs zs
  | 5 => numIs zs 100 8
  | 6 => numIs zs 108 8
  | 7 => numIs zs 116 8
  | 8 => numIs zs 124 12
  | _ => numIs zs 136 12
def pt : Nat → Int
  | 0 => 4
  | 2 => 3
  | 4 => 2
  | _ => 1
def one (b : Bool) (n : Int) : Int := if b = true then n else 0
def upto (zs : List Int) : Nat → Int
  | 0 => 0
  | k + 1 => upto zs k + one (sig zs k) (pt k)
theorem one_bd (b : Bool) {n : Int} (h : 0 ≤ n) : 0 ≤ one b n ∧ one b n ≤ n := by cases b <;> simp [one, h]
theorem pt_bd (k : Nat) : 0 ≤ pt k ∧ pt k ≤ 4 := by
  unfold pt
  split <;> decide
theorem upto_bd (zs : List Int) : ∀ k, 0 ≤ upto zs k ∧ upto zs k ≤ 4 * k
  | 0 => ⟨Int.le_refl _, Int.le_refl _⟩
  | k + 1 => by
    have h1 := upto_bd zs k
    have h2 := pt_bd k
    have h3 := one_bd (sig zs k) h2.1
    unfold upto
    omega
def points (zs : List Int) : Int := if zs.length ≠ 512 ∨ zero zs = true then 0 else upto zs 10
theorem points_no {zs : List Int} (h : zs.length ≠ 512) : points zs = 0 := by unfold points; rw [if_pos (.inl h)]
theorem points_zero {zs : List Int} (h : zero zs = true) : points zs = 0 := by unfold points; rw [if_pos (.inr h)]
theorem points_yes {zs : List Int} (h : zs.length = 512) (hz : zero zs = false) : points zs = upto zs 10 := by
  unfold points
  rw [if_neg (by rw [hz]; simp [h])]
theorem points_bd (zs : List Int) : 0 ≤ points zs ∧ points zs ≤ 40 := by
  unfold points
  split
  · decide
  · exact upto_bd zs 10
theorem head_bd (zs : List Int) : (hparse zs).1 = 0 ∨ (hparse zs).1 ≠ 0 := by omega
def isHead (zs : List Int) : Bool := (hparse zs).1 == 0
def isSus (zs : List Int) : Bool := !isHead zs && decide (6 ≤ points zs)

/-! Trim. -/
theorem mem_trim_left {l cs : List UInt8} {x : UInt8} (hx : x ∈ l) (h : cs.contains x = false) : x ∈ trimLeftS l cs := by
  unfold trimLeftS
  induction l with
  | nil => cases hx
  | cons y l ih =>
    rw [List.dropWhile_cons]
    split
    · rename_i hy
      rcases List.mem_cons.1 hx with rfl | hx
      · rw [h] at hy; cases hy
      · exact ih hx
    · exact hx
theorem mem_trim_right {l cs : List UInt8} {x : UInt8} (hx : x ∈ l) (h : cs.contains x = false) : x ∈ trimRightS l cs := by
  have := mem_trim_left (l := l.reverse) (cs := cs) (List.mem_reverse.2 hx) h
  unfold trimLeftS at this
  unfold trimRightS
  exact List.mem_reverse.2 this
theorem drop_none {l cs : List UInt8} (h : ∀ x ∈ l, cs.contains x = true) : l.dropWhile (cs.contains ·) = [] := by
  induction l with
  | nil => rfl
  | cons y l ih =>
    rw [List.dropWhile_cons, if_pos (h y (List.mem_cons_self ..))]
    exact ih fun x hx => h x (List.mem_cons_of_mem _ hx)
theorem trim_len (l cs : List UInt8) : decide (0 < (trimS l cs).length) = l.any fun x => !cs.contains x := by
  rw [Bool.eq_iff_iff, decide_eq_true_eq, List.any_eq_true]
  constructor
  · intro h
    refine Classical.byContradiction fun hn => ?_
    have hall : ∀ x ∈ l, cs.contains x = true := fun x hx => by
      cases hc : cs.contains x with
      | true => rfl
      | false => exact absurd ⟨x, hx, by rw [hc]; rfl⟩ hn
    have e1 : trimRightS l cs = [] := by
      unfold trimRightS
      rw [drop_none fun x hx => hall x (List.mem_reverse.1 hx)]
      rfl
    unfold trimS at h
    rw [e1] at h
    exact absurd h (Nat.lt_irrefl 0)
  · rintro ⟨x, hx, hc⟩
    rw [Bool.not_eq_true'] at hc
    have := mem_trim_left (cs := cs) (mem_trim_right hx hc) hc
    unfold trimS
    exact List.length_pos_of_mem this
theorem has_eq {zs : List Int} (hz : ∀ z ∈ zs, 0 ≤ z ∧ z ≤ 255) (a m : Nat) : decide (0 < (trimS (bytesOf (sub zs a m)) [0, 32]).length) = has zs a m := by
  rw [trim_len]
  unfold has bytesOf
  rw [List.any_map]
  have hb := sub_bd (a := a) (n := m) hz
  generalize sub zs a m = l at hb
  induction l with
  | nil => rfl
  | cons z l ih =>
    rw [List.any_cons, List.any_cons, ih fun x hx => hb x (List.mem_cons_of_mem _ hx)]
    congr 1
    have h := hb z (List.mem_cons_self ..)
    obtain ⟨k, rfl⟩ := Int.eq_ofNat_of_zero_le h.1
    have hk : k < 256 := by omega
    show (!List.contains [0, 32] (UInt8.ofNat k)) = _
    have e0 : ((UInt8.ofNat k) == 0) = ((k : Int) == 0) := by
      rw [Bool.eq_iff_iff, beq_iff_eq, beq_iff_eq, ← UInt8.toNat_inj]
      simp
      omega
    have e1 : ((UInt8.ofNat k) == 32) = ((k : Int) == 32) := by
      rw [Bool.eq_iff_iff, beq_iff_eq, beq_iff_eq, ← UInt8.toNat_inj]
      simp
      omega
    rw [List.contains_cons, List.contains_cons, e0, e1]
    simp
end M
end Go.Proofs.YtkpnhggpcpjddaaGreatDoor
