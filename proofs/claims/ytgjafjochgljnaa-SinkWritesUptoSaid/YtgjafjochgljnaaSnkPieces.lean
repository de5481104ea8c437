/-
  SinkPieces' walk.
-/
import Derived.Test.YtgjafjochgljnaaSnkNone
namespace Go.Proofs.Ytgjafjochgljnaa
open Go.RowKit Go.Lib

theorem elem22 : Try.prog.elem 22 = 5 := by kernel_rfl
theorem cells5 : (Try.prog.info? 5).map (·.size) = some 1 := by kernel_rfl
/-- 's[l:]' of bytes, the address under one name. -/
theorem slice_from (w : World) (a : Option Addr) (len cap : Nat) (kl : IntKind) (l : Int) (h0 : 0 ≤ l) (h1 : l ≤ len) :
    (Instr.slice 22 (.slice a len cap) (some (.int kl l)) none none).run Try.prog w = .ok (.slice (cutA a cap l.toNat) (len - l.toNat) (cap - l.toNat)) w := by
  have ht : Try.prog.underlying 22 = some (.slice (Try.prog.elem 22)) := by rw [elem22]; exact Try.underlying22
  rw [run_slice_l w 22 a len cap ht kl l h0 h1, elem22]
  have hs : (sizeOf 5).run Try.prog w = .ok 1 w := by
    obtain ⟨i, hi, hz⟩ := Option.map_eq_some_iff.1 cells5
    simp [sizeOf, typeInfo, hi, hz]
  rw [hs]
  simp [Result.andThen, sliced, cutA]
/-- 's[:h]' of bytes. -/
theorem slice_to (w : World) (a : Option Addr) (len cap : Nat) (kh : IntKind) (h : Int) (h0 : 0 ≤ h) (h1 : h ≤ cap) :
    (Instr.slice 22 (.slice a len cap) none (some (.int kh h)) none).run Try.prog w = .ok (.slice a h.toNat cap) w := by
  have ht : Try.prog.underlying 22 = some (.slice (Try.prog.elem 22)) := by rw [elem22]; exact Try.underlying22
  rw [run_slice_h w 22 a len cap ht kh h h0 h1, elem22]
  have hs : (sizeOf 5).run Try.prog w = .ok 1 w := by
    obtain ⟨i, hi, hz⟩ := Option.map_eq_some_iff.1 cells5
    simp [sizeOf, typeInfo, hi, hz]
  rw [hs]
  have hadd : ∀ x : Addr, x.add 0 = x := fun x => by simp [Addr.add]
  have hm : a.map (·.add 0) = a := by cases a <;> simp [hadd]
  simp [Result.andThen, sliced, hm]
attribute [local go_sem ↓] slice_from slice_to

theorem M.got_nat (r has n : Nat) : M.got r has n = min n (r - has) := by unfold M.got; omega
theorem pieces_eq (zs : List Int) (r i n : Nat) (hi : i ≤ n) : zs.take (min i r) ++ (zs.drop i).take (min (n - i) (r - min i r)) = zs.take (min n r) := by
  by_cases h : i ≤ r
  · rw [show min i r = i by omega, ← List.take_add, show i + min (n - i) (r - i) = min n r by omega]
  · rw [show min i r = r by omega, Nat.sub_self, Nat.min_zero, List.take_zero, List.append_nil, show min n r = r by omega]

theorem Snk.lower {w : World} {base base' g : Nat} {v : Value} {room : Int} {zs : List Int} (h : Snk w base g v room zs) (hb : base' ≤ base) : Snk w base' g v room zs :=
  ⟨h.blk, h.own.lower hb, h.apart, Nat.le_trans hb h.at_, h.fits, h.top, h.bytes⟩

/-- A Write whose code nobody looks at. -/
theorem write_g (base g : Nat) (v : Value) (room : Int) (zs : List Int) (A : Option Addr) (n c : Nat) (ls : List Int) (w : World) (B m : Nat) (ys : List Int) (h : Snk w base g v room zs) (hbase : base ≤ w.heap.size) (hr : Rd w B A n ls) (hB : B ≤ w.heap.size) (hnc : n ≤ c) (hc : c ≤ maxLen) (hs : zs.length + n ≤ 1000000)
    (hm : M.got room zs.length n = m) (hy : zs ++ ls.take m = ys) :
    Calls Try.prog 9 #[.pointer (some ⟨g, 0, none⟩), .slice A n c] w fun e w' => ∃ v' cd, e = .returned (.tuple #[.int .i64 m, .int .u16 cd]) ∧ Snk w' base g v' room ys ∧ Below base w w' ∧ Fr (Snk.foot g v) w w' ∧ (v'.ownBlock = v.ownBlock ∨ v'.ownBlock = none ∨ ∃ k, v'.ownBlock = some k ∧ w.heap.size ≤ k) := by
  refine (write_f base g v room zs A n c ls w B m ys _ h hbase hr hB hnc hc hs hm hy rfl).mono ?_
  rintro e w' ⟨v', rfl, hS, hF, hv, ho⟩
  exact ⟨v', _, rfl, hS, hF, hv, ho⟩

set_option maxRecDepth 100000 in
set_option maxHeartbeats 2000000 in
theorem sinkPieces_nat (A : Option Addr) (n c : Nat) (zs : List Int) (r k : Nat) (w : World) (hr : Rd w w.heap.size A n zs) (hnc : n ≤ c) (hc : c ≤ maxLen) (hr5 : r ≤ 255) (hk : k ≤ 255) :
    Calls Try.prog 3 #[.slice A n c, .int .u8 r, .int .u8 k] w fun e w' => e = .returned (.bool true) ∧ Below w.heap.size w w' := by
  by_cases h6 : 300 < n
  · have e1 : decide ((300 : Int) < n) = true := by rw [decide_eq_true_eq]; omega
    have hcm : n ≤ maxLen := Nat.le_trans hnc hc
    unfold maxLen at hcm
    clear hr
    go_enter Try.func3, Try.ntmps3
    go_wp2_with fail
    refine (known_any _).mono ?_
    rintro e w1 ⟨rfl, b1⟩
    go_wp2
    go_ret
    exact ⟨rfl, b1⟩
  have e1 : decide ((300 : Int) < n) = false := by rw [decide_eq_false_iff_not]; omega
  have hn3 : n ≤ 300 := by omega
  have HZL := hid hr.len
  have HN := hid (fun (W : World) => new_any r W (by omega))
  rw [show max (r : Int) 0 = r from by omega] at HN
  have HR := hid (fun (W : World) (hb : Below w.heap.size w W) => (hr.keep (w' := W) fun p hp => hb.cell hp).more hb.size)
  have hi : k % (n + 1) ≤ n := by have := Nat.mod_lt k (show 0 < n + 1 by omega); omega
  have ht1 : ((k : Int)).tmod ((n : Int) + 1) = ((k % (n + 1) : Nat) : Int) := by rw [Int.tmod_eq_emod_of_nonneg (a := (k : Int)) (by omega), Int.natCast_emod, Int.natCast_add]; rfl
  have ht2 : ((k : Int)) % ((n : Int) + 1) = ((k % (n + 1) : Nat) : Int) := by rw [Int.natCast_emod, Int.natCast_add]; rfl
  generalize k % (n + 1) = i at *
  have HF : Hid (∀ W, Below w.heap.size w W → Rd W W.heap.size A i (zs.take i)) := hid (fun W hb => (HR.out W hb).front hi)
  have HD : Hid (∀ W, Below w.heap.size w W → Rd W W.heap.size (cutA A c i) (n - i) (zs.drop i)) := hid (fun W hb => (HR.out W hb).cut hi hnc)
  have hto : ((i : Nat) : Int).toNat = i := by omega
  have HP := hid (pieces_eq zs r i n hi)
  have HC := hid hc
  clear hr h6
  go_enter Try.func3, Try.ntmps3
  go_wp2_with fail
  (with_reducible refine (HN.out w).mono ?_)
  rintro e w1 ⟨gs, rfl, hS1, b1⟩
  have HS1 := hid hS1
  have B1 := hid b1
  clear hS1 b1
  go_wp2_with fail
  (with_reducible refine (HN.out w1).mono ?_)
  rintro e w2 ⟨gt, rfl, hT2, b2⟩
  have HS2 := hid (HS1.out.later b2)
  have HT2 := hid (hT2.lower B1.out.size)
  have HGT := hid hT2.at_
  have B2 := hid (B1.out.trans (b2.mono B1.out.size))
  have HWS := hid (write_g w.heap.size gs (.slice none 0 0) r [] A n c zs w2 w2.heap.size (min n r) (zs.take (min n r)) HS2.out B2.out.size (HR.out w2 B2.out) (Nat.le_refl _) hnc HC.out (by simp; omega) (by rw [M.got_nat]; rfl) rfl)
  clear hT2 b2 HN
  go_wp2_with fail
  (with_reducible refine HWS.out.mono ?_)
  rintro e w3 ⟨v3, cd3, rfl, hS3, b3, f3, ov3⟩
  have HS3 := hid hS3
  have B3 := hid (B2.out.trans b3)
  have HT3 := hid (HT2.out.kept f3 (fun q hq hf => by
    rcases hq with rfl | hq
    · rcases hf with e | hf
      · have := HS1.out.lt; have := HGT.out; omega
      · cases hf
    · cases hq))
  have HV3 : Hid (∀ q, v3.ownBlock = some q → w2.heap.size ≤ q) := hid (fun q hq => by
    rcases ov3 with e | e | ⟨q', e, hl⟩
    · rw [e] at hq; cases hq
    · rw [e] at hq; cases hq
    · rw [e] at hq; injection hq with hq; omega)
  have HWT := hid (write_g w.heap.size gt (.slice none 0 0) r [] A i c (zs.take i) w3 w3.heap.size (min i r) (zs.take (min i r)) HT3.out B3.out.size (HF.out w3 B3.out) (Nat.le_refl _) (by omega) HC.out (by simp; omega) (by rw [M.got_nat]; rfl) (by rw [List.nil_append, List.take_take]; congr 1; omega))
  clear hS3 b3 f3 ov3 HWS
  unfold maxLen at hc
  go_wp2_with fail
  (with_reducible refine HWT.out.mono ?_)
  rintro e w4 ⟨v4, cd4, rfl, hT4, b4, f4, ov4⟩
  have HT4 := hid hT4
  have B4 := hid (B3.out.trans b4)
  have HS4 := hid (HS3.out.kept f4 (fun q hq hf => by
    have h2 := HT2.out.lt
    rcases hf with e | hf
    · rcases hq with e' | hq
      · have := HS1.out.lt; have := HGT.out; omega
      · have := HV3.out q hq; omega
    · cases hf))
  have HV4 : Hid (∀ q, v4.ownBlock = some q → w3.heap.size ≤ q) := hid (fun q hq => by
    rcases ov4 with e | e | ⟨q', e, hl⟩
    · rw [e] at hq; cases hq
    · rw [e] at hq; cases hq
    · rw [e] at hq; injection hq with hq; omega)
  have HLI : Hid ((zs.take (min i r)).length = min i r) := hid (by rw [List.length_take, HZL.out]; omega)
  have HWU := hid (write_g w.heap.size gt v4 r (zs.take (min i r)) (cutA A c i) (n - i) (c - i) (zs.drop i) w4 w4.heap.size (min (n - i) (r - min i r)) (zs.take (min n r)) HT4.out B4.out.size (HD.out w4 B4.out) (Nat.le_refl _) (by omega) (by unfold maxLen; omega) (by rw [HLI.out]; omega) (by rw [M.got_nat, HLI.out]) HP.out)
  clear hT4 b4 f4 ov4 HWT
  go_wp2_with fail
  (with_reducible refine HWU.out.mono ?_)
  rintro e w5 ⟨v5, cd5, rfl, hT5, b5, f5, ov5⟩
  have HT5 := hid hT5
  have B5 := hid (B4.out.trans b5)
  have HS5 := hid (HS4.out.kept f5 (fun q hq hf => by
    have h2 := HT2.out.lt
    have h3 := HS3.out.foot_lt hq
    rcases hf with e | hf
    · rcases hq with e' | hq
      · have := HS1.out.lt; have := HGT.out; omega
      · have := HV3.out q hq; omega
    · have := HV4.out q hf; omega))
  clear hT5 b5 f5 ov5 HWU
  have HXL : Hid ((zs.take (min n r)).length ≤ 1000000) := hid (by rw [List.length_take]; omega)
  generalize zs.take (min n r) = xs at *
  go_wp2_with fail
  obtain ⟨w6, hw6⟩ : ∃ w6, w6 = w5 := ⟨_, rfl⟩
  have HBS := hid (fun (W : World) (hb : Below w5.heap.size w5 W) => bytes_any w.heap.size gs v3 r xs W (HS5.out.later hb) HXL.out)
  have HBT := hid (fun (W : World) (hb : Below w5.heap.size w5 W) => bytes_any w.heap.size gt v5 r xs W (HT5.out.later hb) HXL.out)
  have HLS := hid (fun (W : World) (hb : Below w5.heap.size w5 W) => left_any w.heap.size gs v3 r xs W (HS5.out.later hb))
  have HLT := hid (fun (W : World) (hb : Below w5.heap.size w5 W) => left_any w.heap.size gt v5 r xs W (HT5.out.later hb))
  clear hw6 w6
  refine wp_region_held_drew (S := fun W => Below w5.heap.size w5 W) (by kernel_rfl) (below_drew' (Below.refl _ _)) (fun hS => ?_)
  refine loneH (i := 0) 45 rfl rfl (by kernel_rfl) (by rfl) (fun K hK => ?_)
  go_simp
  (with_reducible refine (known_any _).mono ?_)
  rintro e w7 ⟨rfl, b7⟩
  have B7 := hS.trans (b7.mono hS.size)
  clear b7 hS
  refine hK.out _ _ B7 (fun hS => ?_)
  clear hK K
  try simp only [Act.put, List.setIfInBounds_toArray, List.set_cons_zero, List.set_cons_succ]
  refine takeH (i := 1) (v := ?_) 46 rfl rfl (by kernel_rfl) (by kernel_rfl) (by kernel_rfl) (fun _ _ _ h => h) (by rfl) ?hy1 hS ?rest1
  case hy1 => (intro W hW; clear hW; go_simp; first | done | with_reducible rfl)
  try simp only [Act.put, List.setIfInBounds_toArray, List.set_cons_zero, List.set_cons_succ]
  refine takeH (i := 2) (v := ?_) 47 rfl rfl (by kernel_rfl) (by kernel_rfl) (by kernel_rfl) (fun _ _ _ h => h) (by rfl) ?hy2 hS ?rest2
  case hy2 => (intro W hW; clear hW; go_simp; first | done | with_reducible rfl)
  try simp only [Act.put, List.setIfInBounds_toArray, List.set_cons_zero, List.set_cons_succ]
  refine takeH (i := 5) (v := ?_) 50 rfl rfl (by kernel_rfl) (by kernel_rfl) (by kernel_rfl) (fun _ _ _ h => h) (by rfl) ?hy5 hS ?rest5
  case hy5 => (intro W hW; clear hW; go_simp; first | done | with_reducible rfl)
  try simp only [Act.put, List.setIfInBounds_toArray, List.set_cons_zero, List.set_cons_succ]
  refine loneH (i := 3) 48 rfl rfl (by kernel_rfl) (by rfl) (fun K hK => ?_)
  go_simp
  (with_reducible refine (HBS.out _ hS).mono ?_)
  rintro e w8 ⟨A8, c8, rfl, hr8, b8⟩
  have B8 := hS.trans (b8.mono hS.size)
  have HR8 := hid hr8
  have CV8 := hid (fun (W : World) (hW : Below w8.heap.size w8 W) => run_str (HR8.out.keep (w' := W) fun p hp => hW.cell hp) c8)
  clear b8 hS hr8
  refine hK.out _ _ B8 (fun hS => ?_)
  clear hK K
  try simp only [Act.put, List.setIfInBounds_toArray, List.set_cons_zero, List.set_cons_succ]
  refine wpAnyH_narrow (S' := fun W => Below w8.heap.size w8 W) (fun W h => B8.trans (h.mono B8.size)) _ _ _ _ ?_
  clear hS
  have hS := Below.refl w8.heap.size w8
  refine takeH (i := 4) (v := ?_) 49 rfl rfl (by kernel_rfl) (by kernel_rfl) (by kernel_rfl) (fun _ _ _ h => h) (by rfl) ?hy4 hS ?rest4
  case hy4 => (intro W hW; have f0 := CV8.out W hW; clear hW; go_simp; first | done | with_reducible rfl)
  try simp only [Act.put, List.setIfInBounds_toArray, List.set_cons_zero, List.set_cons_succ]
  refine loneH (i := 6) 51 rfl rfl (by kernel_rfl) (by rfl) (fun K hK => ?_)
  go_simp
  (with_reducible refine (HBT.out _ (B8.trans (hS.mono B8.size))).mono ?_)
  rintro e w9 ⟨A9, c9, rfl, hr9, b9⟩
  have B9 := hS.trans (b9.mono hS.size)
  have HR9 := hid hr9
  have CV9 := hid (fun (W : World) (hW : Below w9.heap.size w9 W) => run_str (HR9.out.keep (w' := W) fun p hp => hW.cell hp) c9)
  clear b9 hS hr9
  refine hK.out _ _ B9 (fun hS => ?_)
  clear hK K
  try simp only [Act.put, List.setIfInBounds_toArray, List.set_cons_zero, List.set_cons_succ]
  refine wpAnyH_narrow (S' := fun W => Below w9.heap.size w9 W) (fun W h => B9.trans (h.mono B9.size)) _ _ _ _ ?_
  clear hS
  have hS := Below.refl w9.heap.size w9
  refine takeH (i := 7) (v := ?_) 52 rfl rfl (by kernel_rfl) (by kernel_rfl) (by kernel_rfl) (fun _ _ _ h => h) (by rfl) ?hy7 hS ?rest7
  case hy7 => (intro W hW; have f0 := CV9.out W hW; clear hW; go_simp; first | done | with_reducible rfl)
  try simp only [Act.put, List.setIfInBounds_toArray, List.set_cons_zero, List.set_cons_succ]
  refine takeH (i := 8) (v := ?_) 53 rfl rfl (by kernel_rfl) (by kernel_rfl) (by kernel_rfl) (fun _ _ _ h => h) (by rfl) ?hy8 hS ?rest8
  case hy8 => (intro W hW; clear hW; go_simp; first | done | with_reducible rfl)
  try simp only [Act.put, List.setIfInBounds_toArray, List.set_cons_zero, List.set_cons_succ]
  refine takeH (i := 9) (v := ?_) 54 rfl rfl (by kernel_rfl) (by kernel_rfl) (by kernel_rfl) (fun _ _ _ h => h) (by rfl) ?hy9 hS ?rest9
  case hy9 => (intro W hW; clear hW; go_simp; first | done | with_reducible rfl)
  try simp only [Act.put, List.setIfInBounds_toArray, List.set_cons_zero, List.set_cons_succ]
  refine takeH (i := 10) (v := ?_) 55 rfl rfl (by kernel_rfl) (by kernel_rfl) (by kernel_rfl) (fun _ _ _ h => h) (by rfl) ?hy10 hS ?rest10
  case hy10 => (intro W hW; clear hW; go_simp; first | done | with_reducible rfl)
  try simp only [Act.put, List.setIfInBounds_toArray, List.set_cons_zero, List.set_cons_succ]
  refine takeH (i := 11) (v := ?_) 56 rfl rfl (by kernel_rfl) (by kernel_rfl) (by kernel_rfl) (fun _ _ _ h => h) (by rfl) ?hy11 hS ?rest11
  case hy11 => (intro W hW; clear hW; go_simp; first | done | with_reducible rfl)
  try simp only [Act.put, List.setIfInBounds_toArray, List.set_cons_zero, List.set_cons_succ]
  refine takeH (i := 13) (v := ?_) 58 rfl rfl (by kernel_rfl) (by kernel_rfl) (by kernel_rfl) (fun _ _ _ h => h) (by rfl) ?hy13 hS ?rest13
  case hy13 => (intro W hW; clear hW; go_simp; first | done | with_reducible rfl)
  try simp only [Act.put, List.setIfInBounds_toArray, List.set_cons_zero, List.set_cons_succ]
  have B89 := B8.trans (B9.mono B8.size)
  refine loneH (i := 12) 57 rfl rfl (by kernel_rfl) (by rfl) (fun K hK => ?_)
  go_simp
  (with_reducible refine (HLS.out _ (B89.trans (hS.mono B89.size))).mono ?_)
  rintro e w10 ⟨rfl, b10⟩
  have B10 := hS.trans (b10.mono hS.size)
  clear b10 hS
  refine hK.out _ _ B10 (fun hS => ?_)
  clear hK K
  try simp only [Act.put, List.setIfInBounds_toArray, List.set_cons_zero, List.set_cons_succ]
  refine loneH (i := 14) 59 rfl rfl (by kernel_rfl) (by rfl) (fun K hK => ?_)
  go_simp
  (with_reducible refine (HLT.out _ (B89.trans (hS.mono B89.size))).mono ?_)
  rintro e w11 ⟨rfl, b11⟩
  have B11 := hS.trans (b11.mono hS.size)
  clear b11 hS
  refine hK.out _ _ B11 (fun hS => ?_)
  clear hK K
  try simp only [Act.put, List.setIfInBounds_toArray, List.set_cons_zero, List.set_cons_succ]
  refine takeH (i := 15) (v := ?_) 60 rfl rfl (by kernel_rfl) (by kernel_rfl) (by kernel_rfl) (fun _ _ _ h => h) (by rfl) ?hy15 hS ?rest15
  case hy15 => (intro W hW; clear hW; go_simp; first | done | with_reducible rfl)
  try simp only [Act.put, List.setIfInBounds_toArray, List.set_cons_zero, List.set_cons_succ]
  refine takeH (i := 16) (v := ?_) 61 rfl rfl (by kernel_rfl) (by kernel_rfl) (by kernel_rfl) (fun _ _ _ h => h) (by rfl) ?hy16 hS ?rest16
  case hy16 => (intro W hW; clear hW; go_simp; first | done | with_reducible rfl)
  try simp only [Act.put, List.setIfInBounds_toArray, List.set_cons_zero, List.set_cons_succ]
  refine takeH (i := 17) (v := ?_) 6 rfl rfl (by kernel_rfl) (by kernel_rfl) (by kernel_rfl) (fun _ _ _ h => h) (by rfl) ?hy17 hS ?rest17
  case hy17 => (intro W hW; clear hW; go_simp; first | done | with_reducible rfl)
  try simp only [Act.put, List.setIfInBounds_toArray, List.set_cons_zero, List.set_cons_succ]
  refine wpAnyH_done (by kernel_rfl) ?_ _
  go_wp2
  go_ret
  exact ⟨rfl, B5.out.trans ((B89.trans (B11.mono B89.size)).mono B5.out.size)⟩

theorem sinkPieces_any (A : Option Addr) (n c : Nat) (zs : List Int) (r k : Int) (w : World) (hr : Rd w w.heap.size A n zs) (hnc : n ≤ c) (hc : c ≤ maxLen) (hr5 : 0 ≤ r ∧ r ≤ 255) (hk : 0 ≤ k ∧ k ≤ 255) :
    Calls Try.prog 3 #[.slice A n c, .int .u8 r, .int .u8 k] w fun e w' => e = .returned (.bool true) ∧ Below w.heap.size w w' := by
  obtain ⟨r', rfl⟩ : ∃ r' : Nat, r = r' := ⟨r.toNat, by omega⟩
  obtain ⟨k', rfl⟩ : ∃ k' : Nat, k = k' := ⟨k.toNat, by omega⟩
  exact sinkPieces_nat A n c zs r' k' w hr hnc hc (by omega) (by omega)
end Go.Proofs.Ytgjafjochgljnaa
