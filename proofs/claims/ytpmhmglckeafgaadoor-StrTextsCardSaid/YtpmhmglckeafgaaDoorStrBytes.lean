/-
  A text of choices that may be UTF-8; the walk of StrTexts.
-/
import Derived.Test.YtpmhmglckeafgaaDoorStrCuts
import Derived.RegionTactic
import Derived.Deep.RegionLaw
import Derived.Deep.AppendLies
import Derived.ChangeAlike
namespace Go.Proofs.YtpmhmglckeafgaaDoor
open Go.RowKit Go.Shelf

/-- Bytes in a row of the call's own. -/
def OwnB (w : World) (base : Nat) (v : Value) (zs : List Int) : Prop := w.ownsRow base 5 1 v zs.length (zs.map (Value.int .u8)) ∧ ∀ z ∈ zs, 0 ≤ z ∧ z ≤ 255

def table16 (x : Int) : Array Value := #[.int .u8 97, .int .u8 194, .int .u8 128, .int .u8 191, .int .u8 224, .int .u8 160, .int .u8 237, .int .u8 159, .int .u8 240, .int .u8 144, .int .u8 244, .int .u8 143, .int .u8 193, .int .u8 245, .int .u8 239, .int .u8 x]

theorem table_cell (wr : World) (x : Int) (hx : 0 ≤ x ∧ x ≤ 255) (j : Nat) (hj : j < 16) : ∃ y : Int, 0 ≤ y ∧ y ≤ 255 ∧ (wr.alloc (.cells (table16 x) 5)).cell? ⟨wr.heap.size, j, none⟩ = some (.int .u8 y) := by
  have h := World.cell?_alloc_mark wr (table16 x) 5 (0, 0) j
  have e : (table16 x : Array Value) = (([97, 194, 128, 191, 224, 160, 237, 159, 240, 144, 244, 143, 193, 245, 239, x] : List Int).map (Value.int .u8)).toArray := rfl
  have hl : j < ([97, 194, 128, 191, 224, 160, 237, 159, 240, 144, 244, 143, 193, 245, 239, x] : List Int).length := hj
  have hy : ∀ y ∈ ([97, 194, 128, 191, 224, 160, 237, 159, 240, 144, 244, 143, 193, 245, 239, x] : List Int), 0 ≤ y ∧ y ≤ 255 := by
    intro y hy
    simp only [List.mem_cons, List.not_mem_nil, or_false] at hy
    omega
  have hb := hy _ (List.getElem_mem hl)
  refine ⟨([97, 194, 128, 191, 224, 160, 237, 159, 240, 144, 244, 143, 193, 245, 239, x] : List Int)[j], hb.1, hb.2, h.trans ?_⟩
  rw [e, List.getElem?_toArray, List.getElem?_map, List.getElem?_eq_getElem hl]
  rfl

theorem OwnB.snoc {w : World} {base : Nat} {v : Value} {zs : List Int} {y : Int} (h : w.ownsRow base 5 1 v (zs.length + 1) (zs.map (Value.int .u8) ++ [.int .u8 y])) (hz : ∀ z ∈ zs, 0 ≤ z ∧ z ≤ 255) (hy : 0 ≤ y ∧ y ≤ 255) : OwnB w base v (zs ++ [y]) := by
  refine ⟨by simpa using h, fun z hm => ?_⟩
  rcases List.mem_append.1 hm with hm | hm
  · exact hz z hm
  · rw [List.mem_singleton] at hm; subst hm; exact hy

theorem strOf_size (zs : List Int) : (strOf zs).size = zs.length := by
  have key : ∀ (zs : List Int) (r : ByteArray), (zs.foldl (fun r n => r.push (UInt8.ofNat n.toNat)) r).size = r.size + zs.length := by
    intro zs
    induction zs with
    | nil => intro r; rfl
    | cons z zs ih => intro r; rw [List.foldl_cons, ih, ByteArray.size_push, List.length_cons]; omega
  rw [strOf, key]
  show 0 + zs.length = _
  omega

theorem run_text' {w : World} {base : Nat} {v : Value} {zs : List Int} (h : OwnB w base v zs) : (convert 22 9 v).run Tryd.prog w = .ok (.string (strOf zs)) w := by
  rcases h.1.2 with ⟨hv, h0⟩ | ⟨g, cap, cur, hv, _⟩
  · obtain rfl : zs = [] := List.eq_nil_of_length_eq_zero h0
    subst hv
    exact run_str (Rd.none_ (B := 0)) 0
  · subst hv
    exact run_str (Rd.of_own h.1 h.2) cap

set_option maxRecDepth 100000 in
set_option maxHeartbeats 4000000 in
theorem bytes_any (A : Option Addr) (n c : Nat) (zs : List Int) (w : World) (h : Rd w w.heap.size A n zs) (hc : n ≤ c) :
    Calls Tryd.prog 19 #[.slice A n c] w fun e w' => ∃ s : ByteArray, e = .returned (.string s) ∧ s.size ≤ 20 ∧ Below w.heap.size w w' := by
  obtain ⟨i0, hi, hz0, hz1, hz2⟩ := info_parts infoB
  go_enter Tryd.func19, Tryd.ntmps19
  go_wp2
  go_loopw [3, 4] (fun v i wr => ∃ (k : Nat) (ys : List Int), i = .int .i64 k ∧ OwnB wr w.heap.size v ys ∧ ys.length = k ∧ k ≤ n ∧ k ≤ 20 ∧ Below w.heap.size w wr) (fun _ i _ => 20 - (intOf i).toNat)
  case atStart => exact ⟨0, [], rfl, ⟨World.ownsRow_nil _ _ _ _, by simp⟩, rfl, Nat.zero_le _, by omega, Below.refl _ _⟩
  case round =>
    obtain ⟨k, ys, rfl, hown, hyl, hk, hk20, hb⟩ := hrel
    by_cases hlt : k < n
    · by_cases h20 : k < 20
      · obtain ⟨b, off, z, rfl, hbb, hz0', hz1', hz, hck⟩ := (h.below hb).at_ hlt
        have hbs := hb.size
        have hbl : b < wr.heap.size := by omega
        have HZ := Lib.hid hz
        have HH := Lib.hid h
        clear hz h
        by_cases hk0 : k = 0
        · subst hk0
          simp only [Nat.add_zero] at hck
          have hm : z.tmod 16 = z % 16 := Int.tmod_eq_emod_of_nonneg hz0'
          have hm0 : 0 ≤ z.tmod 16 := by omega
          have hm1 : z.tmod 16 < 16 := by omega
          obtain ⟨y, hy0, hy1, hcy⟩ := table_cell wr z ⟨hz0', hz1'⟩ (z.tmod 16).toNat (by omega)
          unfold table16 at hcy
          clear hm
          have hsz : ∀ o1 o2, ((wr.alloc o1).alloc o2).heap.size = wr.heap.size + 2 := fun o1 o2 => by simp
          have HO := hown.1
          have HO2 : ∀ o1 o2 q, (((wr.alloc o1).alloc o2).drewN q).ownsRow w.heap.size 5 1 u3 ys.length (ys.map (Value.int .u8)) := fun o1 o2 q => (HO.alloc o1).alloc o2
          have hy20 : ys.length ≤ 20 := by omega
          have HY := Lib.hid hyl
          have HW := Lib.hid hown.2
          clear hyl
          go_wp2
          go_region_law (((refine step_append_lies _ rfl (.tmp 15) (.tmp 28) 22 rfl w.heap.size 5 i0 (.int .u8 0) 1 1 Tryd.underlying22 hi hz0 hz1 hz2 rfl (by decide) u3 ys.length (ys.map (Value.int .u8)) (by simp [Act.eval]) ((HO.alloc _).alloc _) ⟨wr.heap.size + 1, 0, none⟩ 1 1 [.int .u8 y] (by simp [Act.eval]) rfl (by intro j q hj; match j, hj with | 0, hj => (simp at hj; subst hj; simp [Addr.add])) (by simp [Value.oneCell']) (by decide) (by unfold maxLen; omega) (by omega) (by simp; omega) (wr.heap.size + 2) (by simp) ?_); intro g cap w1 hown' hgrow _ _; have HG := Lib.hid hgrow; clear hgrow))
          all_goals go_wp2
          all_goals
            refine ⟨⟨1, ys ++ [y], by go_num, OwnB.snoc hown' HW.out ⟨hy0, hy1⟩, by rw [List.length_append, List.length_singleton, HY.out], by omega, by omega, ?_⟩, by simp [intOf] <;> omega⟩
            exact (((hb.alloc hbs _).alloc (by simp; omega) _).drew).grown HG.out (by simp; omega) (fun j hj => ownsRow_block HO j hj)
        · have hk1 : 0 < k := by omega
          clear hk0
          have hm : z.tmod 16 = z % 16 := Int.tmod_eq_emod_of_nonneg hz0'
          have hm0 : 0 ≤ z.tmod 16 := by omega
          have hm1 : z.tmod 16 < 16 := by omega
          obtain ⟨y, hy0, hy1, hcy⟩ := table_cell wr z ⟨hz0', hz1'⟩ (z.tmod 16).toNat (by omega)
          unfold table16 at hcy
          clear hm
          have hsz : ∀ o1 o2, ((wr.alloc o1).alloc o2).heap.size = wr.heap.size + 2 := fun o1 o2 => by simp
          have HO := hown.1
          have HO2 : ∀ o1 o2 q, (((wr.alloc o1).alloc o2).drewN q).ownsRow w.heap.size 5 1 u3 ys.length (ys.map (Value.int .u8)) := fun o1 o2 q => (HO.alloc o1).alloc o2
          have hy20 : ys.length ≤ 20 := by omega
          have HY := Lib.hid hyl
          have HW := Lib.hid hown.2
          clear hyl
          go_wp2
          go_region_law (((refine step_append_lies _ rfl (.tmp 15) (.tmp 28) 22 rfl w.heap.size 5 i0 (.int .u8 0) 1 1 Tryd.underlying22 hi hz0 hz1 hz2 rfl (by decide) u3 ys.length (ys.map (Value.int .u8)) (by simp [Act.eval]) ((HO.alloc _).alloc _) ⟨wr.heap.size + 1, 0, none⟩ 1 1 [.int .u8 y] (by simp [Act.eval]) rfl (by intro j q hj; match j, hj with | 0, hj => (simp at hj; subst hj; simp [Addr.add])) (by simp [Value.oneCell']) (by decide) (by unfold maxLen; omega) (by omega) (by simp; omega) (wr.heap.size + 2) (by simp) ?_); intro g cap w1 hown' hgrow _ _; have HG := Lib.hid hgrow; clear hgrow))
          all_goals go_wp2
          all_goals
            refine ⟨⟨k + 1, ys ++ [y], by go_num, OwnB.snoc hown' HW.out ⟨hy0, hy1⟩, by rw [List.length_append, List.length_singleton, HY.out], by omega, by omega, ?_⟩, by simp [intOf] <;> omega⟩
            exact (((hb.alloc hbs _).alloc (by simp; omega) _).drew).grown HG.out (by simp; omega) (fun j hj => ownsRow_block HO j hj)
      · have hd1 : (20 : Int) ≤ (k : Int) := by omega
        have htx := run_text' hown
        clear h h20
        go_wp2
        go_ret
        exact ⟨_, rfl, by rw [strOf_size]; omega, hb⟩
    · have htx := run_text' hown
      clear h
      obtain rfl : k = n := by omega
      clear hlt
      go_wp2
      go_ret
      exact ⟨_, rfl, by rw [strOf_size]; omega, hb⟩
end Go.Proofs.YtpmhmglckeafgaaDoor
