/-
  Records that nobody knows stay, by rising keys.
-/
import Derived.Test.YtbpangofobkmfaaGreatDoorMtExtra
import Derived.IntWalk
import Derived.Test.YtbpangofobkmfaaGreatDoorMtKnown
import Derived.Test.YtbpangofobkmfaaGreatDoorMtQuiet
import Derived.Laws.Cover1
set_option linter.unusedVariables false
set_option linter.unusedSimpArgs false
/-! The document's keys; records of choices. -/
namespace Go.Proofs.YtbpangofobkmfaaGreatDoor
open Go.RowKit Go.Lib
open Px (R2 tl)
attribute [local go_sem ↓] add_plain

def keyL : List ByteArray := [M.kPath, M.kLink, M.kUser, M.kGroup, M.kUid, M.kGid, M.kSize, M.kTime, M.kMap, M.kReal]
def keyCells : Array Value := #[.string M.kPath, .string M.kLink, .string M.kUser, .string M.kGroup, .string M.kUid, .string M.kGid, .string M.kSize, .string M.kTime, .string M.kMap, .string M.kReal]
theorem key_cell (w : World) (j : Nat) (hj : j < keyL.length) : (w.alloc (.cells keyCells 9)).cell? ⟨w.heap.size, j, none⟩ = some (.string keyL[j]) := by
  have h := World.cell?_alloc_mark w keyCells 9 (0, 0) j
  refine h.trans ?_
  have e : keyCells = (keyL.map Value.string).toArray := rfl
  rw [e]
  simp [hj]
theorem keyL_keys : M.keys = keyL.map tl := rfl
set_option maxRecDepth 100000 in
theorem keys_any (w : World) : Calls Tryz.prog 31 #[] w fun e w' => e = .returned (.slice (some ⟨w.heap.size, 0, none⟩) 10 10) ∧ w' = w.alloc (.cells keyCells 9) := by
  go_enter Tryz.func31, Tryz.ntmps31
  go_wp2
  go_ret
  exact ⟨rfl, rfl⟩
set_option maxRecDepth 100000 in
set_option maxHeartbeats 1000000 in
theorem is_any (s : ByteArray) (w : World) : Calls Tryz.prog 12 #[.string s] w fun e w' => e = .returned (.bool (M.isKey (tl s))) ∧ Below w.heap.size w w' := by
  go_enter Tryz.func12, Tryz.ntmps12
  go_wp2_with (go_at_call 31; (with_reducible refine (keys_any _).mono ?_); rintro e w1 ⟨rfl, rfl⟩)
  have HB := hid ((Below.refl w.heap.size w).alloc (Nat.le_refl _) (.cells keyCells 9))
  have HC := hid (key_cell w)
  generalize World.alloc w _ = W at *
  have hln : keyL.length = 10 := rfl
  go_loopw [4] (fun iv wr => ∃ k : Nat, iv = .int .i64 k ∧ k ≤ 10 ∧ Hid (∀ j (h : j < keyL.length), j < k → ¬ tl keyL[j] = tl s) ∧ wr = W) (fun iv _ => 10 - (intOf iv).toNat)
  case atStart => exact ⟨0, rfl, by omega, hid (fun j _ h => absurd h (by omega)), rfl⟩
  case round =>
    obtain ⟨k, rfl, hk, HN, rfl⟩ := hrel
    by_cases hlt : k < 10
    · have hkl : k < keyL.length := by omega
      have hc := HC.out k hkl
      have hq := str_eq keyL[k] s
      obtain ⟨x, hx⟩ : ∃ x, keyL[k] = x := ⟨_, rfl⟩
      rw [hx] at hc hq
      by_cases he : tl x = tl s
      · rw [decide_eq_true he] at hq
        have HK := hid (show M.isKey (tl s) = true by
          unfold M.isKey
          rw [decide_eq_true_eq, keyL_keys, ← he, ← hx]
          exact List.mem_map_of_mem (List.getElem_mem hkl))
        clear he hx hkl hln
        go_wp2
        go_ret
        exact ⟨by rw [HK.out]; rfl, HB.out⟩
      · rw [decide_eq_false he] at hq
        have HN2 := hid (show ∀ j (h : j < keyL.length), j < k + 1 → ¬ tl keyL[j] = tl s from fun j h hj => by
          rcases Nat.lt_succ_iff_lt_or_eq.1 hj with h1 | h1
          · exact HN.out j h h1
          · subst h1; rw [hx]; exact he)
        clear he hx HN hkl hln
        go_wp2
        go_roundw
        case rel => exact ⟨k + 1, by go_num, by omega, HN2, by first | rfl | trivial⟩
        case measure => simp [intOf]; omega
    · obtain rfl : k = 10 := by omega
      have HK := hid (show M.isKey (tl s) = false by
        unfold M.isKey
        rw [decide_eq_false_iff_not, keyL_keys]
        intro hm
        obtain ⟨x, hx, he⟩ := List.mem_map.1 hm
        obtain ⟨j, hj, rfl⟩ := List.getElem_of_mem hx
        exact HN.out j hj (by omega) he)
      clear HN hlt
      go_wp2
      go_ret
      exact ⟨by rw [HK.out]; rfl, HB.out⟩
end Go.Proofs.YtbpangofobkmfaaGreatDoor

/-! Records of choices. -/
namespace Go.Proofs.YtbpangofobkmfaaGreatDoor
open Go.RowKit Go.Lib
open Px (R2 tl)
attribute [local go_sem ↓] add_plain

def valL : List ByteArray := [⟨#[]⟩, ⟨#[49]⟩, ⟨#[55, 55]⟩, ⟨#[120, 47, 121]⟩, ⟨#[48, 44, 53, 44, 57, 44, 49]⟩, ⟨#[54]⟩, ⟨#[49, 46, 53]⟩, ⟨#[45, 51]⟩, ⟨#[57, 57, 57, 57, 57, 57, 57, 57, 57, 57, 57, 57, 57, 57, 57, 57, 57, 57, 57, 57]⟩, ⟨#[52, 54, 49, 49, 54, 56, 54, 48, 49, 56, 52, 50, 55, 51, 56, 55, 57, 48, 53]⟩, ⟨#[49, 48, 57, 57, 53, 49, 49, 54, 50, 55, 55, 55, 55]⟩, ⟨#[48, 44, 48]⟩]
theorem val_cell (wr : World) (j : Nat) (hj : j < 12) : ∃ x : ByteArray, x.size ≤ 100 ∧ (wr.alloc (.cells #[.string ⟨#[]⟩, .string ⟨#[49]⟩, .string ⟨#[55, 55]⟩, .string ⟨#[120, 47, 121]⟩, .string ⟨#[48, 44, 53, 44, 57, 44, 49]⟩, .string ⟨#[54]⟩, .string ⟨#[49, 46, 53]⟩, .string ⟨#[45, 51]⟩, .string ⟨#[57, 57, 57, 57, 57, 57, 57, 57, 57, 57, 57, 57, 57, 57, 57, 57, 57, 57, 57, 57]⟩, .string ⟨#[52, 54, 49, 49, 54, 56, 54, 48, 49, 56, 52, 50, 55, 51, 56, 55, 57, 48, 53]⟩, .string ⟨#[49, 48, 57, 57, 53, 49, 49, 54, 50, 55, 55, 55, 55]⟩, .string ⟨#[48, 44, 48]⟩] 9)).cell? ⟨wr.heap.size, j, none⟩ = some (.string x) := by
  have h := World.cell?_alloc_mark wr #[.string ⟨#[]⟩, .string ⟨#[49]⟩, .string ⟨#[55, 55]⟩, .string ⟨#[120, 47, 121]⟩, .string ⟨#[48, 44, 53, 44, 57, 44, 49]⟩, .string ⟨#[54]⟩, .string ⟨#[49, 46, 53]⟩, .string ⟨#[45, 51]⟩, .string ⟨#[57, 57, 57, 57, 57, 57, 57, 57, 57, 57, 57, 57, 57, 57, 57, 57, 57, 57, 57, 57]⟩, .string ⟨#[52, 54, 49, 49, 54, 56, 54, 48, 49, 56, 52, 50, 55, 51, 56, 55, 57, 48, 53]⟩, .string ⟨#[49, 48, 57, 57, 53, 49, 49, 54, 50, 55, 55, 55, 55]⟩, .string ⟨#[48, 44, 48]⟩] 9 (0, 0) j
  have hs : ∀ x ∈ valL, x.size ≤ 100 := by decide
  have hjl : j < valL.length := hj
  refine ⟨valL[j], hs _ (List.getElem_mem hjl), h.trans ?_⟩
  have e : (#[Value.string ⟨#[]⟩, .string ⟨#[49]⟩, .string ⟨#[55, 55]⟩, .string ⟨#[120, 47, 121]⟩, .string ⟨#[48, 44, 53, 44, 57, 44, 49]⟩, .string ⟨#[54]⟩, .string ⟨#[49, 46, 53]⟩, .string ⟨#[45, 51]⟩, .string ⟨#[57, 57, 57, 57, 57, 57, 57, 57, 57, 57, 57, 57, 57, 57, 57, 57, 57, 57, 57, 57]⟩, .string ⟨#[52, 54, 49, 49, 54, 56, 54, 48, 49, 56, 52, 50, 55, 51, 56, 55, 57, 48, 53]⟩, .string ⟨#[49, 48, 57, 57, 53, 49, 49, 54, 50, 55, 55, 55, 55]⟩, .string ⟨#[48, 44, 48]⟩] : Array Value) = (valL.map Value.string).toArray := rfl
  rw [e]
  simp [hjl]
theorem keyL_size : ∀ x ∈ keyL, x.size ≤ 100 := by decide
/-- What Recs answers: some short ones. -/
def RecsIs (w : World) (e : Ending) (w' : World) : Prop :=
  ∃ A c rs, e = .returned (.slice A rs.length c) ∧ Px.RdR w' w'.heap.size A rs ∧ rs.length ≤ c ∧ rs.length ≤ 12 ∧ (∀ r ∈ rs, r.1.size ≤ 100 ∧ r.2.size ≤ 100) ∧ Below w.heap.size w w'
theorem short_snoc {rs : List R2} {r : R2} (h : ∀ r ∈ rs, r.1.size ≤ 100 ∧ r.2.size ≤ 100) (h1 : r.1.size ≤ 100) (h2 : r.2.size ≤ 100) : ∀ x ∈ rs ++ [r], x.1.size ≤ 100 ∧ x.2.size ≤ 100 := fun x hx => by
  rcases List.mem_append.1 hx with hx | hx
  · exact h x hx
  · rw [List.mem_singleton] at hx
    subst hx
    exact ⟨h1, h2⟩

set_option maxRecDepth 100000 in
set_option maxHeartbeats 8000000 in
theorem recs_any (A : Option Addr) (n c : Nat) (zs : List Int) (hn : n ≤ maxLen) (w : World) (h : Sp.Rd w w.heap.size A n zs) :
    Calls Tryz.prog 11 #[.slice A n c] w (RecsIs w) := by
  unfold maxLen at hn
  have HR := Lib.hid h
  clear h
  go_enter Tryz.func11, Tryz.ntmps11
  go_wp2_with (go_at_call 31; (with_reducible refine (keys_any _).mono ?_); rintro e w1 ⟨rfl, rfl⟩)
  have HB := hid ((Below.refl w.heap.size w).alloc (Nat.le_refl _) (.cells keyCells 9))
  have HC := hid (key_cell w)
  have HSZ := hid (World.size_alloc w (.cells keyCells 9))
  generalize World.alloc w _ = W at *
  go_loopw [3, 5] (fun v i wr => ∃ (q : Nat) (rs : List R2), i = .int .i64 ((2 * q : Nat) : Int) ∧ q ≤ 6 ∧ Hid (Px.OwnR wr W.heap.size v rs) ∧ rs.length ≤ 2 * q ∧ Hid (∀ r ∈ rs, r.1.size ≤ 100 ∧ r.2.size ≤ 100) ∧ Hid (Below W.heap.size W wr)) (fun _ i _ => 12 - (intOf i).toNat)
  case atStart => exact ⟨0, [], rfl, by omega, hid (Px.OwnR.nil _ _), Nat.zero_le _, hid (fun r hr => by cases hr), hid (Below.refl _ _)⟩
  case round =>
    obtain ⟨q, rs, rfl, hq, HO, hrq, HG, HW⟩ := hrel
    obtain ⟨k, hk⟩ : ∃ k, k = 2 * q := ⟨_, rfl⟩
    rw [← hk]
    have hbs := HW.out.size
    by_cases hlt : k + 1 < n
    · by_cases hl12 : k < 12
      · obtain ⟨b, off, rfl, hbb, hcell⟩ := HR.out.2.2 (by omega)
        have hlen := HR.out.len
        have hk0l : k < zs.length := by omega
        have hk1l : k + 1 < zs.length := by omega
        have h0 := hcell k _ (List.getElem?_eq_getElem hk0l)
        have h1 := hcell (k + 1) _ (List.getElem?_eq_getElem hk1l)
        have hz0 := HR.out.bd _ (List.getElem_mem hk0l)
        have hz1 := HR.out.bd _ (List.getElem_mem hk1l)
        obtain ⟨z0, hz0e⟩ : ∃ z, zs[k] = z := ⟨_, rfl⟩
        obtain ⟨z1, hz1e⟩ : ∃ z, zs[k + 1] = z := ⟨_, rfl⟩
        rw [hz0e] at h0 hz0
        rw [hz1e] at h1 hz1
        have HD0 := Lib.hid (fun (V : World) (hV : Below W.heap.size W V) => (HB.out.trans (hV.mono (by rw [HSZ.out]; omega))).cell (p := ⟨b, off + k, none⟩) hbb |>.trans h0)
        have d0 := HD0.out _ HW.out
        have d1 := (HB.out.trans (HW.out.mono (by rw [HSZ.out]; omega))).cell (p := ⟨b, off + (k + 1), none⟩) hbb |>.trans h1
        have HZ0 := hid hz0
        obtain ⟨hz10, hz11⟩ := hz1
        have HK := hid hk
        have hrl : rs.length ≤ 1000 := by omega
        obtain ⟨x, hx, hcx⟩ := val_cell wr (z1 % 12).toNat (by omega)
        have HX := hid hx
        have HCX := hid hcx
        have hbl : b < wr.heap.size := by have := HSZ.out; omega
        clear hcell h0 h1 hz0e hz1e hlen hk0l hk1l hz0 hk hx
        go_upto_region 7 with fail
        have HW1 := hid (HW.out.alloc hbs (.cells #[.string ⟨#[]⟩, .string ⟨#[49]⟩, .string ⟨#[55, 55]⟩, .string ⟨#[120, 47, 121]⟩, .string ⟨#[48, 44, 53, 44, 57, 44, 49]⟩, .string ⟨#[54]⟩, .string ⟨#[49, 46, 53]⟩, .string ⟨#[45, 51]⟩, .string ⟨#[57, 57, 57, 57, 57, 57, 57, 57, 57, 57, 57, 57, 57, 57, 57, 57, 57, 57, 57, 57]⟩, .string ⟨#[52, 54, 49, 49, 54, 56, 54, 48, 49, 56, 52, 50, 55, 51, 56, 55, 57, 48, 53]⟩, .string ⟨#[49, 48, 57, 57, 53, 49, 49, 54, 50, 55, 55, 55, 55]⟩, .string ⟨#[48, 44, 48]⟩] 9))
        have HO1 := hid (HO.out.alloc (.cells #[.string ⟨#[]⟩, .string ⟨#[49]⟩, .string ⟨#[55, 55]⟩, .string ⟨#[120, 47, 121]⟩, .string ⟨#[48, 44, 53, 44, 57, 44, 49]⟩, .string ⟨#[54]⟩, .string ⟨#[49, 46, 53]⟩, .string ⟨#[45, 51]⟩, .string ⟨#[57, 57, 57, 57, 57, 57, 57, 57, 57, 57, 57, 57, 57, 57, 57, 57, 57, 57, 57, 57]⟩, .string ⟨#[52, 54, 49, 49, 54, 56, 54, 48, 49, 56, 52, 50, 55, 51, 56, 55, 57, 48, 53]⟩, .string ⟨#[49, 48, 57, 57, 53, 49, 49, 54, 50, 55, 55, 55, 55]⟩, .string ⟨#[48, 44, 48]⟩] 9))
        clear hcx HCX HO HW d0 d1
        generalize World.alloc wr _ = V1 at *
        have d0 := HD0.out _ HW1.out
        have hz := HZ0.out
        obtain ⟨hz00, hz01⟩ := hz
        have hbs1 := HW1.out.size
        have hyl : (z0 % 10).toNat < keyL.length := by show _ < 10; omega
        obtain ⟨y, hy⟩ : ∃ y, keyL[(z0 % 10).toNat] = y := ⟨_, rfl⟩
        have hY := keyL_size _ (List.getElem_mem hyl)
        have hcy := (HW1.out.cell (p := ⟨w.heap.size, (z0 % 10).toNat, none⟩) (by show w.heap.size < _; have := HSZ.out; omega)).trans (HC.out _ hyl)
        rw [hy] at hY hcy
        have HY := hid hY
        clear hyl hy hY
        go_upto_region 8 with (at_builtin; refine Px.wpList_appR rfl (.tmp 28) (.tmp 39) rfl W.heap.size u3 rs (y, x) rfl rfl rfl HO1.out hbs1 rfl (by omega) ?_)
        intro v4 w4 rs2 HRS hn4 o4 hb4 hg4
        have HW4 := hid (HW1.out.trans hb4)
        have HO4 := hid o4
        have HG4 := hid (show ∀ r ∈ rs2, r.1.size ≤ 100 ∧ r.2.size ≤ 100 from by rw [HRS.out]; exact short_snoc HG.out HY.out HX.out)
        clear hb4 hg4 o4 d0 hcy HO1 HW1 HG hbs1
        have d0 := HD0.out _ HW4.out
        have hbs4 := HW4.out.size
        by_cases h240 : z0 > 240
        · go_wp2_with (at_builtin; refine Px.wpList_appR rfl (.tmp 46) (.tmp 49) rfl W.heap.size v4 rs2 (⟨#[111, 116, 104, 101, 114]⟩, x) rfl rfl rfl HO4.out hbs4 rfl (by omega) ?_)
          intro v5 w5 rs3 HRS5 hn5 o5 hb5 hg5
          have HW5 := hid (HW4.out.trans hb5)
          have HO5 := hid o5
          have HG5 := hid (show ∀ r ∈ rs3, r.1.size ≤ 100 ∧ r.2.size ≤ 100 from by rw [HRS5.out]; exact short_snoc HG4.out (show (⟨#[111, 116, 104, 101, 114]⟩ : ByteArray).size ≤ 100 by decide) HX.out)
          clear hb5 hg5 o5 d0 HO4 HW4 HG4
          go_wp2
          go_roundw
          case rel => exact ⟨q + 1, rs3, by have := HK.out; first | (congr 1; omega) | go_num, by have := HK.out; omega, HO5, by have := HK.out; omega, HG5, HW5⟩
          case measure => simp [intOf]; omega
        · go_wp2_with fail
          go_roundw
          case rel => exact ⟨q + 1, rs2, by have := HK.out; first | (congr 1; omega) | go_num, by have := HK.out; omega, HO4, by have := HK.out; omega, HG4, HW4⟩
          case measure => simp [intOf]; omega
      · obtain ⟨A4, c4, rfl, hr4, hc4, hm4⟩ := HO.out.rd
        have HR4 := hid hr4
        have HK := hid hk
        clear hr4 hk
        have hge : (12 : Int) ≤ (k : Int) := by omega
        clear hl12
        go_wp2
        go_ret
        exact ⟨A4, c4, rs, rfl, HR4.out, hc4, by omega, HG.out, HB.out.trans (HW.out.mono HB.out.size)⟩
    · obtain ⟨A4, c4, rfl, hr4, hc4, hm4⟩ := HO.out.rd
      have HR4 := hid hr4
      have HK := hid hk
      have hk13 : k ≤ 12 := by omega
      clear hr4 hk
      have hge : (n : Int) ≤ (k : Int) + 1 := by omega
      clear hlt
      go_wp2
      go_ret
      exact ⟨A4, c4, rs, rfl, HR4.out, hc4, by omega, HG.out, HB.out.trans (HW.out.mono HB.out.size)⟩
end Go.Proofs.YtbpangofobkmfaaGreatDoor

/-! Records that nobody knows stay, by rising keys. -/
namespace Go.Proofs.YtbpangofobkmfaaGreatDoor
open Go.RowKit Go.Lib
open Px (R2 tl)
attribute [local go_sem ↓] add_plain

theorem extra_at {m : M.Met} (he : M.toE m = 0) {k : Nat} (hk : k < m.extra.length) : M.isKey (tl m.extra[k].1) = false ∧ m.extra[k].2.size ≠ 0 := by
  have R := M.right_of (M.toE_wrong he)
  have h := (M.extra_all R.extra m.extra[k] (List.getElem_mem hk)).1
  unfold M.extraOk at h
  simp only [Bool.and_eq_true, Bool.not_eq_true', beq_eq_false_iff_ne] at h
  exact ⟨h.2.1, h.2.2.1⟩
theorem extra_next {m : M.Met} (he : M.toE m = 0) {k : Nat} (hk : k + 1 < m.extra.length) : Px.ltB (tl m.extra[k].1) (tl m.extra[k + 1].1) = true := by
  have R := M.right_of (M.toE_wrong he)
  have h := M.rising_at (M.extra_rising R.extra) (k := k) (by simpa using hk)
  simpa [M.rc] using h
/-- A file's header, of a name alone. -/
def fileH : M.Hdr := { name := ⟨#[97]⟩, kind := 48 }
theorem fin_file {w : World} {l : List R2} {A : Option Addr} (hr : Px.RdR w w.heap.size A l) (h1 : l.length ≤ 12) (h3 : ∀ r ∈ l, r.1.size ≤ 100 ∧ r.2.size ≤ 100) : FIn w fileH (.slice none 0 0) l [] [] [] A none none none where
  rparts := ⟨none, 0, rfl, Sp.RdP.none_⟩
  rrecs := hr
  rnames := fun h => absurd h (by simp)
  rlinks := fun h => absurd h (by simp)
  rmore := Sp.RdP.none_
  nparts := ⟨Nat.zero_le _, Nat.zero_le _⟩
  nrecs := Nat.le_trans h1 (by decide)
  nnames := ⟨Nat.zero_le _, Nat.zero_le _⟩
  fits := fun r hr => ⟨Nat.le_trans (h3 r hr).1 (by decide), Nat.le_trans (h3 r hr).2 (by decide)⟩
  kind := (by decide : (0 : Int) ≤ 48 ∧ (48 : Int) ≤ 255)
  pn := (by decide : 0 + 1 < 1000000)
  texts := ⟨Nat.zero_le _, Nat.zero_le _, Nat.zero_le _⟩
  tnames := ⟨fun x hx => (by cases hx), fun x hx => (by cases hx)⟩
  ints := ⟨isI64_0, isI64_0, isI64_0, isI64_0, isI64_0, isI64_0, isI64_0⟩
  i64s := ⟨fun p hp => (by cases hp), fun p hp => (by cases hp)⟩

set_option maxRecDepth 100000 in
set_option maxHeartbeats 8000000 in
theorem metaExtra_any (A0 : Option Addr) (n0 c0 : Nat) (A1 : Option Addr) (n1 c1 : Nat) (z1 : List Int) (B : Nat) (w : World) (hr : Sp.Rd w w.heap.size A1 n1 z1) (hn : n1 ≤ maxLen) (hB : B ≤ w.heap.size) (ht : Sp.EV B w) :
    Calls Tryz.prog 5 #[.slice A0 n0 c0, .slice A1 n1 c1] w fun e w' => e = .returned (.bool true) ∧ Below w.heap.size w w' := by
  have HT := hid (fun (V : World) (hV : Below w.heap.size w V) => And.intro (Nat.le_trans hB hV.size) (ht.on (hV.mono hB)))
  have HR := hid (recs_any A1 n1 c1 z1 hn w hr)
  clear ht hB hr
  go_enter Tryz.func5, Tryz.ntmps5
  go_wp2_with fail
  refine HR.out.mono ?_
  rintro e w1 ⟨A, c, rs, rfl, hr1, hc1, hl1, hg1, hb1⟩
  have HB1 := hid hb1
  have HF := hid (from_any fileH (.slice none 0 0) rs [] [] [] A none none none c 0 0 0 B w1 (fin_file hr1 hl1 hg1) (HT.out _ hb1).1 (HT.out _ hb1).2)
  clear hr1 hg1 hb1 HR
  go_wp2_with fail
  refine HF.out.mono ?_
  rintro e w2 ⟨pv, ev, rfl, hm2, hb2⟩
  have HB2 := hid (HB1.out.trans (hb2.mono HB1.out.size))
  have HM := hid (fun (h : M.fromE fileH (Px.rcs rs) [] [] [] = 0) => M.from_toE h)
  clear HF HB1 hb2
  obtain ⟨m, hm⟩ : ∃ m, M.fromM fileH (Px.rcs rs) [] [] [] = m := ⟨_, rfl⟩
  obtain ⟨E, hE⟩ : ∃ E, M.fromE fileH (Px.rcs rs) [] [] [] = E := ⟨_, rfl⟩
  rw [hm, hE] at HM
  rw [hm] at hm2
  rw [hm, hE]
  clear hm hE
  obtain ⟨Ap, cp, rfl, _⟩ := hm2.parts
  obtain ⟨Ae, ce, rfl, hre⟩ := hm2.extra
  have HRE := hid hre
  have HNE := hid hm2.nextra
  clear hm2 hre
  go_upto_region 2 with (refine wpList_store_row rfl 34 (.tmp 5) (.tmp 13) rfl w2.heap.size (mcells m (.slice Ap m.parts.length cp) (.slice Ae m.extra.length ce)) (by simp [Act.eval]) (by simp [Act.eval]) 34 (mcells {} (.slice none 0 0) (.slice none 0 0)) (heap_alloc_new w2 _) met_size rfl (mcells_one _ rfl rfl) ?_; rw [World.setRow_alloc_new])
  have M3 := hid (MB.new w2 m (.slice Ap m.parts.length cp) (.slice Ae m.extra.length ce))
  have hb3 := (Below.refl w2.heap.size w2).alloc (Nat.le_refl _) (.cells (mcells m (.slice Ap m.parts.length cp) (.slice Ae m.extra.length ce)) 34)
  have HB3 := hid (HB2.out.trans (hb3.mono HB2.out.size))
  have HRE3 := hid ((HRE.out.below hb3).more hb3.size)
  clear hb3 HB2 HRE
  generalize World.alloc w2 _ = w3 at *
  by_cases hE0 : E = 0
  case neg =>
    have d1 : ((E : Int) != 0) = true := by rw [bne_iff_ne]; omega
    clear hE0 HM
    go_wp2_with fail
    refine (known_any B w3 (HT.out _ HB3.out).1 (HT.out _ HB3.out).2).mono ?_
    rintro e w4 ⟨rfl, hb4⟩
    have HB4 := hid (HB3.out.trans (hb4.mono HB3.out.size))
    clear hb4
    go_wp2
    go_ret
    exact ⟨rfl, HB4.out⟩
  subst hE0
  have HX := hid (HM.out rfl)
  clear HM
  go_wp2_with fail
  have hs2 : w2.heap.size < w3.heap.size := M3.out.lt
  have hnx := HNE.out
  go_loopw [7] (fun iv wr => ∃ k : Nat, iv = .int .i64 k ∧ k ≤ m.extra.length ∧ Hid (Below w3.heap.size w3 wr)) (fun iv _ => m.extra.length - (intOf iv).toNat)
  case atStart => exact ⟨0, rfl, Nat.zero_le _, hid (Below.refl _ _)⟩
  case round =>
    obtain ⟨k, rfl, hk, HW⟩ := hrel
    have x16 := (M3.out.below HW.out hs2).cell (i := 16) (v := .slice Ae m.extra.length ce) rfl
    by_cases hlt : k < m.extra.length
    · obtain ⟨b, off, rfl, hbb, c1, c2⟩ := HRE3.out.at_ hlt
      have H16 := hid (fun (V : World) (hV : Below w3.heap.size w3 V) => (M3.out.below hV hs2).cell (i := 16) (v := .slice (some ⟨b, off, none⟩) m.extra.length ce) rfl)
      obtain ⟨e1, e2⟩ := extra_at HX.out hlt
      have q2 : (m.extra[k].2.toList == []) = false := by rw [size_empty]; simpa using e2
      obtain ⟨r, hr⟩ : ∃ r, m.extra[k] = r := ⟨_, rfl⟩
      rw [hr] at c1 c2 e1 q2
      have H1 := hid (fun (V : World) (hV : Below w3.heap.size w3 V) => (hV.cell (p := ⟨b, off + k * 2, none⟩) hbb).trans c1)
      have H2 := hid (fun (V : World) (hV : Below w3.heap.size w3 V) => (hV.cell (p := ⟨b, off + k * 2 + 1, none⟩) hbb).trans c2)
      have HI := hid (fun W => show Calls Tryz.prog 12 #[.string r.1] W fun e w' => e = .returned (.bool false) ∧ Below W.heap.size W w' from by have h := is_any r.1 W; rw [e1] at h; exact h)
      obtain ⟨q, hq⟩ : ∃ q, q = k - 1 := ⟨_, rfl⟩
      have hql : q < m.extra.length := by omega
      obtain ⟨s, hs⟩ : ∃ s, m.extra[q] = s := ⟨_, rfl⟩
      obtain ⟨_, _, e, _, c3, rgt⟩ := HRE3.out.at_ hql
      injection e with e
      injection e with eb eo
      subst eb eo
      rw [hs] at c3
      obtain ⟨g, hg⟩ : ∃ g, decide (0 < k) = g := ⟨_, rfl⟩
      have HG := hid hg
      have HD2 := hid (show g = true → IntKind.i64.wrap ((k : Int) - 1) = (q : Int) from fun h => by rw [h, decide_eq_true_eq] at hg; rw [IntKind.wrap_i64]; omega)
      have HD3 := hid (show g = true → q < m.extra.length from fun _ => hql)
      have H3 := hid (show g = true → ∀ V : World, Below w3.heap.size w3 V → V.cell? ⟨b, off + q * 2, none⟩ = some (.string s.1) from fun _ V hV => (hV.cell (p := ⟨b, off + q * 2, none⟩) hbb).trans c3)
      have HQ3 := hid (show g = true → Op.bytesLess s.1.toList r.1.toList = true from fun h => by
        rw [h, decide_eq_true_eq] at hg
        obtain rfl : k = q + 1 := by omega
        have h2 := extra_next HX.out hlt
        rw [hr, hs] at h2
        rw [bytesLess_eq, ByteArray.toList_eq, ByteArray.toList_eq]
        exact h2)
      clear rgt c1 c2 c3 e1 e2 hr hs hq hql hg
      go_upto_region 7 with fail
      refine wp_region_class (fun W => Below w3.heap.size w3 W) (by kernel_rfl) (by kernel_rfl) (below_drew' HW.out) ?_
      refine quiet_yes 25 (v := ?_) rfl (by kernel_rfl) ?hy25 ?rest25
      case hy25 => (intro W hW; clear hW; go_simp; first | done | with_reducible rfl)
      try simp only [Act.put, List.setIfInBounds_toArray, List.set_cons_zero, List.set_cons_succ]
      refine quiet_yes 26 (v := ?_) rfl (by kernel_rfl) ?hy26 ?rest26
      case hy26 => (intro W hW; have x1 := H16.out W hW; have x2 := H1.out W hW; have x3 := H2.out W hW; clear hW; go_simp; first | done | with_reducible rfl)
      try simp only [Act.put, List.setIfInBounds_toArray, List.set_cons_zero, List.set_cons_succ]
      refine quiet_yes 27 (v := ?_) rfl (by kernel_rfl) ?hy27 ?rest27
      case hy27 => (intro W hW; clear hW; go_simp; first | done | with_reducible rfl)
      try simp only [Act.put, List.setIfInBounds_toArray, List.set_cons_zero, List.set_cons_succ]
      refine quiet_yes 28 (v := ?_) rfl (by kernel_rfl) ?hy28 ?rest28
      case hy28 => (intro W hW; clear hW; go_simp; first | done | with_reducible rfl)
      try simp only [Act.put, List.setIfInBounds_toArray, List.set_cons_zero, List.set_cons_succ]
      refine quiet_yes 29 (v := ?_) rfl (by kernel_rfl) ?hy29 ?rest29
      case hy29 => (intro W hW; clear hW; go_simp; first | done | with_reducible rfl)
      try simp only [Act.put, List.setIfInBounds_toArray, List.set_cons_zero, List.set_cons_succ]
      refine quiet_yes 30 (v := ?_) rfl (by kernel_rfl) ?hy30 ?rest30
      case hy30 => (intro W hW; have x1 := H16.out W hW; have x2 := H1.out W hW; have x3 := H2.out W hW; clear hW; go_simp; first | done | with_reducible rfl)
      try simp only [Act.put, List.setIfInBounds_toArray, List.set_cons_zero, List.set_cons_succ]
      refine quiet_yes 31 (v := .bool false) rfl (by kernel_rfl) ?hy31 ?rest31
      case hy31 => (intro W hW; (go_simp; go_at_call 12; (with_reducible refine (HI.out W).mono ?_); rintro e w' ⟨rfl, hb⟩; exact ⟨rfl, hW.trans (hb.mono hW.size)⟩))
      try simp only [Act.put, List.setIfInBounds_toArray, List.set_cons_zero, List.set_cons_succ]
      refine quiet_yes 32 (v := ?_) rfl (by kernel_rfl) ?hy32 ?rest32
      case hy32 => (intro W hW; clear hW; go_simp; first | done | with_reducible rfl)
      try simp only [Act.put, List.setIfInBounds_toArray, List.set_cons_zero, List.set_cons_succ]
      refine quiet_yes 33 (v := ?_) rfl (by kernel_rfl) ?hy33 ?rest33
      case hy33 => (intro W hW; clear hW; go_simp; first | done | with_reducible rfl)
      try simp only [Act.put, List.setIfInBounds_toArray, List.set_cons_zero, List.set_cons_succ]
      refine quiet_yes 34 (v := ?_) rfl (by kernel_rfl) ?hy34 ?rest34
      case hy34 => (intro W hW; have x1 := H16.out W hW; have x2 := H1.out W hW; have x3 := H2.out W hW; clear hW; go_simp; first | done | with_reducible rfl)
      try simp only [Act.put, List.setIfInBounds_toArray, List.set_cons_zero, List.set_cons_succ]
      refine quiet_yes 35 (v := ?_) rfl (by kernel_rfl) ?hy35 ?rest35
      case hy35 => (intro W hW; clear hW; go_simp; first | done | with_reducible rfl)
      try simp only [Act.put, List.setIfInBounds_toArray, List.set_cons_zero, List.set_cons_succ]
      refine quiet_yes 36 (v := ?_) rfl (by kernel_rfl) ?hy36 ?rest36
      case hy36 => (intro W hW; clear hW; go_simp; first | done | with_reducible rfl)
      try simp only [Act.put, List.setIfInBounds_toArray, List.set_cons_zero, List.set_cons_succ]
      refine quiet_yes 37 (v := ?_) rfl (by kernel_rfl) ?hy37 ?rest37
      case hy37 => (intro W hW; clear hW; go_simp; first | done | with_reducible rfl)
      try simp only [Act.put, List.setIfInBounds_toArray, List.set_cons_zero, List.set_cons_succ]
      refine quiet_yes 38 (v := ?_) rfl (by kernel_rfl) ?hy38 ?rest38
      case hy38 => (intro W hW; have x1 := H16.out W hW; have x2 := H1.out W hW; have x3 := H2.out W hW; clear hW; go_simp; first | done | with_reducible rfl)
      try simp only [Act.put, List.setIfInBounds_toArray, List.set_cons_zero, List.set_cons_succ]
      refine quiet_yes 39 (v := .bool false) rfl (by kernel_rfl) ?hy39 ?rest39
      case hy39 => (intro W hW; clear hW; go_simp; first | done | with_reducible rfl)
      try simp only [Act.put, List.setIfInBounds_toArray, List.set_cons_zero, List.set_cons_succ]
      refine quiet_yes 40 (v := .bool false) rfl (by kernel_rfl) ?hy40 ?rest40
      case hy40 => (intro W hW; clear hW; go_simp; first | done | with_reducible rfl)
      try simp only [Act.put, List.setIfInBounds_toArray, List.set_cons_zero, List.set_cons_succ]
      refine quiet_yes 41 (v := ?_) rfl (by kernel_rfl) ?hy41 ?rest41
      case hy41 => (intro W hW; clear hW; go_simp; first | done | with_reducible rfl)
      try simp only [Act.put, List.setIfInBounds_toArray, List.set_cons_zero, List.set_cons_succ]
      refine quiet_yes 42 (v := ?_) rfl (by kernel_rfl) ?hy42 ?rest42
      case hy42 => (intro W hW; clear hW; go_simp; first | done | with_reducible rfl)
      try simp only [Act.put, List.setIfInBounds_toArray, List.set_cons_zero, List.set_cons_succ]
      refine quiet_yes 43 (v := .bool g) rfl (by kernel_rfl) ?hy43 ?rest43
      case hy43 => (intro W hW; clear hW; rw [← HG.out]; go_simp; first | done | with_reducible rfl)
      try simp only [Act.put, List.setIfInBounds_toArray, List.set_cons_zero, List.set_cons_succ]
      refine quiet_yes 44 (v := ?_) rfl (by kernel_rfl) ?hy44 ?rest44
      case hy44 => (intro W hW; clear hW; go_simp; first | done | with_reducible rfl)
      try simp only [Act.put, List.setIfInBounds_toArray, List.set_cons_zero, List.set_cons_succ]
      refine quiet_if 45 (g) (v := ?_) rfl (by cases g <;> kernel_rfl) ?hy45 ?rest45
      case hy45 => (intro hg W hW; subst hg; have d2 := HD2.out rfl; have d3 := HD3.out rfl; clear hW; go_simp; first | done | with_reducible rfl)
      try simp only [Act.put, List.setIfInBounds_toArray, List.set_cons_zero, List.set_cons_succ]
      refine quiet_if 46 (g) (v := ?_) rfl (by cases g <;> kernel_rfl) ?hy46 ?rest46
      case hy46 => (intro hg W hW; subst hg; have d2 := HD2.out rfl; have d3 := HD3.out rfl; have x1 := H16.out W hW; have x2 := H1.out W hW; have x4 := H3.out rfl W hW; clear hW; go_simp; first | done | with_reducible rfl)
      try simp only [Act.put, List.setIfInBounds_toArray, List.set_cons_zero, List.set_cons_succ]
      refine quiet_if 47 (g) (v := ?_) rfl (by cases g <;> kernel_rfl) ?hy47 ?rest47
      case hy47 => (intro hg W hW; subst hg; have d2 := HD2.out rfl; have d3 := HD3.out rfl; clear hW; go_simp; first | done | with_reducible rfl)
      try simp only [Act.put, List.setIfInBounds_toArray, List.set_cons_zero, List.set_cons_succ]
      refine quiet_if 48 (g) (v := .int .i64 (q : Int)) rfl (by cases g <;> kernel_rfl) ?hy48 ?rest48
      case hy48 => (intro hg W hW; subst hg; have d2 := HD2.out rfl; have d3 := HD3.out rfl; simp only [cond_true]; clear hW; go_simp; first | done | with_reducible rfl)
      try simp only [Act.put, List.setIfInBounds_toArray, List.set_cons_zero, List.set_cons_succ]
      refine quiet_if 49 (g) (v := .pointer (some ⟨b, off + q * 2, none⟩)) rfl (by cases g <;> kernel_rfl) ?hy49 ?rest49
      case hy49 => (intro hg W hW; subst hg; have d2 := HD2.out rfl; have d3 := HD3.out rfl; simp only [cond_true]; clear hW; go_simp; first | done | with_reducible rfl)
      try simp only [Act.put, List.setIfInBounds_toArray, List.set_cons_zero, List.set_cons_succ]
      refine quiet_if 50 (g) (v := ?_) rfl (by cases g <;> kernel_rfl) ?hy50 ?rest50
      case hy50 => (intro hg W hW; subst hg; have d2 := HD2.out rfl; have d3 := HD3.out rfl; simp only [cond_true]; clear hW; go_simp; first | done | with_reducible rfl)
      try simp only [Act.put, List.setIfInBounds_toArray, List.set_cons_zero, List.set_cons_succ]
      refine quiet_if 51 (g) (v := ?_) rfl (by cases g <;> kernel_rfl) ?hy51 ?rest51
      case hy51 => (intro hg W hW; subst hg; have d2 := HD2.out rfl; have d3 := HD3.out rfl; simp only [cond_true]; have x1 := H16.out W hW; have x2 := H1.out W hW; have x4 := H3.out rfl W hW; clear hW; go_simp; first | done | with_reducible rfl)
      try simp only [Act.put, List.setIfInBounds_toArray, List.set_cons_zero, List.set_cons_succ]
      refine quiet_if 52 (g) (v := ?_) rfl (by cases g <;> kernel_rfl) ?hy52 ?rest52
      case hy52 => (intro hg W hW; subst hg; have d2 := HD2.out rfl; have d3 := HD3.out rfl; simp only [cond_true]; clear hW; go_simp; first | done | with_reducible rfl)
      try simp only [Act.put, List.setIfInBounds_toArray, List.set_cons_zero, List.set_cons_succ]
      refine quiet_if 53 (g) (v := ?_) rfl (by cases g <;> kernel_rfl) ?hy53 ?rest53
      case hy53 => (intro hg W hW; subst hg; have d2 := HD2.out rfl; have d3 := HD3.out rfl; simp only [cond_true]; have x1 := H16.out W hW; have x2 := H1.out W hW; have x4 := H3.out rfl W hW; clear hW; go_simp; first | done | with_reducible rfl)
      try simp only [Act.put, List.setIfInBounds_toArray, List.set_cons_zero, List.set_cons_succ]
      refine quiet_if 54 (g) (v := ?_) rfl (by cases g <;> kernel_rfl) ?hy54 ?rest54
      case hy54 => (intro hg W hW; subst hg; have d2 := HD2.out rfl; have d3 := HD3.out rfl; simp only [cond_true]; clear hW; go_simp; first | done | with_reducible rfl)
      try simp only [Act.put, List.setIfInBounds_toArray, List.set_cons_zero, List.set_cons_succ]
      refine quiet_if 55 (g) (v := ?_) rfl (by cases g <;> kernel_rfl) ?hy55 ?rest55
      case hy55 => (intro hg W hW; subst hg; have d2 := HD2.out rfl; have d3 := HD3.out rfl; simp only [cond_true]; clear hW; go_simp; first | done | with_reducible rfl)
      try simp only [Act.put, List.setIfInBounds_toArray, List.set_cons_zero, List.set_cons_succ]
      refine quiet_if 56 (g) (v := ?_) rfl (by cases g <;> kernel_rfl) ?hy56 ?rest56
      case hy56 => (intro hg W hW; subst hg; have d2 := HD2.out rfl; have d3 := HD3.out rfl; simp only [cond_true]; clear hW; go_simp; first | done | with_reducible rfl)
      try simp only [Act.put, List.setIfInBounds_toArray, List.set_cons_zero, List.set_cons_succ]
      refine quiet_if 57 (g) (v := ?_) rfl (by cases g <;> kernel_rfl) ?hy57 ?rest57
      case hy57 => (intro hg W hW; subst hg; have d2 := HD2.out rfl; have d3 := HD3.out rfl; simp only [cond_true]; have x1 := H16.out W hW; have x2 := H1.out W hW; have x4 := H3.out rfl W hW; clear hW; go_simp; first | done | with_reducible rfl)
      try simp only [Act.put, List.setIfInBounds_toArray, List.set_cons_zero, List.set_cons_succ]
      refine quiet_if 58 (g) (v := .bool false) rfl (by cases g <;> kernel_rfl) ?hy58 ?rest58
      case hy58 => (intro hg W hW; subst hg; have d2 := HD2.out rfl; have d3 := HD3.out rfl; have q3 := HQ3.out rfl; simp only [cond_true]; clear hW; go_simp; first | done | with_reducible rfl)
      try simp only [Act.put, List.setIfInBounds_toArray, List.set_cons_zero, List.set_cons_succ]
      refine quiet_yes 59 (v := .bool false) rfl (by kernel_rfl) ?hy59 ?rest59
      case hy59 => (intro W hW; clear hW; cases g <;> (go_simp; first | done | with_reducible rfl))
      try simp only [Act.put, List.setIfInBounds_toArray, List.set_cons_zero, List.set_cons_succ]
      refine quiet_yes 60 (v := .bool false) rfl (by kernel_rfl) ?hy60 ?rest60
      case hy60 => (intro W hW; clear hW; go_simp; first | done | with_reducible rfl)
      try simp only [Act.put, List.setIfInBounds_toArray, List.set_cons_zero, List.set_cons_succ]
      refine wpQuiet_nil ?_
      intro w5 hb5
      clear H16 H1 H2 H3 HI
      have HW5 := hid hb5
      clear hb5 HW x16
      go_wp2_with fail
      go_roundw
      case rel => exact ⟨k + 1, by go_num, by omega, HW5⟩
      case measure => simp [intOf]; omega
    · obtain rfl : k = m.extra.length := by omega
      have HB4 := hid (HB3.out.trans (HW.out.mono HB3.out.size))
      clear hlt
      go_wp2_with fail
      refine (known_any B wr (HT.out _ HB4.out).1 (HT.out _ HB4.out).2).mono ?_
      rintro e w5 ⟨rfl, hb5⟩
      have HB5 := hid (HB4.out.trans (hb5.mono HB4.out.size))
      clear hb5
      go_wp2
      go_ret
      exact ⟨rfl, HB5.out⟩
end Go.Proofs.YtbpangofobkmfaaGreatDoor
