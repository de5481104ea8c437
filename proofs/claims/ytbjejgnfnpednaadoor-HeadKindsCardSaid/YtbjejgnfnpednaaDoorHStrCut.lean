/-
  The document's Put; str.Cut and the document's.
-/
import Derived.Test.YtbjejgnfnpednaaDoorHStrPut
import Derived.LoopTactic
namespace Go.Proofs.YtbjejgnfnpednaaDoor.S
open Go.RowKit Go.Shelf

theorem zero_mem {l : List UInt8} {k : Nat} (h : k < l.length) : M.at' l k = 0 ↔ l[k] = 0 := by
  unfold M.at'
  rw [List.getD_eq_getElem?_getD, List.getElem?_eq_getElem h, Option.getD_some, ← UInt8.toNat_inj]
  rfl
theorem not_mem_take_succ {l : List UInt8} {k : Nat} (h : k < l.length) (h1 : ¬ (0 : UInt8) ∈ l.take k) (h2 : ¬ M.at' l k = 0) : ¬ (0 : UInt8) ∈ l.take (k + 1) := by
  rw [List.take_succ_eq_append_getElem h, List.mem_append, List.mem_singleton, not_or]
  exact ⟨h1, fun e => h2 ((zero_mem h).2 e.symm)⟩

/-- The row so far: k bytes of the text, noughts behind. -/
def rowTo (l : List UInt8) (k : Nat) (j : Nat) : Int := if j < k then M.at' l j else 0
/-- Block b is a row of N bytes, cell j holding g j. -/
def RowB (w : World) (b N : Nat) (g : Nat → Int) : Prop := w.rowIs b 5 N (fun j => .int .u8 (g j))
section
variable {w w' : World} {b N : Nat} {g h : Nat → Int}
theorem RowB.cell (r : RowB w b N g) {i : Nat} (hi : i < N) : w.cell? ⟨b, i, none⟩ = some (.int .u8 (g i)) := World.rowIs.cell r hi
theorem RowB.frozen (r : RowB w b N g) (i : Nat) : w.frozen? ⟨b, i, none⟩ = false := World.rowIs.frozen r i
theorem RowB.lt (r : RowB w b N g) : b < w.heap.size := World.rowIs.lt r
theorem RowB.to (r : RowB w b N g) (e : ∀ i, i < N → g i = h i) : RowB w b N h := World.rowIs.congr r fun i hi => by rw [e i hi]
theorem RowB.set (r : RowB w b N g) (i : Nat) (v : Int) : RowB (w.setCell ⟨b, i, none⟩ (.int .u8 v)) b N (fun j => if j = i then v else g j) :=
  (World.rowIs.set r i (.int .u8 v)).congr fun j _ => by
    show (if j = i then _ else _) = Value.int .u8 (if j = i then v else g j)
    split <;> rfl
theorem RowB.made (w : World) (N : Nat) : RowB (w.alloc (.cells (madeCells #[.int .u8 0] N) 5)) w.heap.size N (fun _ => 0) := World.rowIs_made w _ N _
end

theorem at_append_replicate (l : List UInt8) (n j : Nat) : (M.at' (l ++ List.replicate n 0) j : Int) = rowTo l l.length j := by
  unfold rowTo M.at'
  rw [List.getD_eq_getElem?_getD, List.getD_eq_getElem?_getD]
  split
  · rename_i h
    rw [List.getElem?_append_left h]
  · rename_i h
    rw [List.getElem?_append_right (by omega), List.getElem?_replicate]
    split <;> rfl

theorem RowB.rd {w : World} {b N : Nat} {l : List UInt8} (r : RowB w b N (fun j => M.at' l j)) (hl : l.length = N) : Rd w w.heap.size (some ⟨b, 0, none⟩) N (ints l) := by
  refine ⟨by rw [ints_length, hl], ints_bd l, fun _ => ⟨b, 0, rfl, r.lt, fun j z hz => ?_⟩⟩
  have hj : j < l.length := by
    have := (List.getElem?_eq_some_iff.1 hz).1
    rwa [ints_length] at this
  rw [ints_at hj] at hz
  injection hz with hz
  subst hz
  have := r.cell (i := j) (by omega)
  rw [Nat.zero_add, this]
  unfold M.at'
  rw [List.getD_eq_getElem?_getD, List.getElem?_eq_getElem hj]
  rfl

set_option maxRecDepth 100000 in
set_option maxHeartbeats 1000000 in
theorem refPut_any (s : ByteArray) (hs : s.size ≤ 100000) (n : Int) (h1 : -9223372036854775808 ≤ n) (h2 : n ≤ 100000) (w : World) :
    Calls Tryd.prog 82 #[.string s, .int .i64 n] w (PutIs w (M.put s.data.toList n)) := by
  by_cases hw : (s.size : Int) ≤ n
  · obtain ⟨N, rfl⟩ : ∃ N : Nat, n = N := ⟨n.toNat, by omega⟩
    have hN : s.size ≤ N := by omega
    have hmk := run_make_row' (P := Tryd.prog) 22 5 (.int .u8 0) 1 Tryd.underlying22 u8_info rfl .i64 .i64 N (by omega) (by omega)
    go_enter Tryd.func82, Tryd.ntmps82
    go_wp2
    clear hmk
    go_loopw [7] (fun i wr => ∃ k : Nat, i = .int .i64 k ∧ k ≤ s.size ∧ ¬ (0 : UInt8) ∈ s.data.toList.take k ∧ RowB wr w.heap.size N (rowTo s.data.toList k) ∧ Below w.heap.size w wr) (fun i _ => s.size - (intOf i).toNat)
    case atStart => exact ⟨0, rfl, Nat.zero_le _, by simp, (RowB.made w N).to (fun i _ => by simp [rowTo]), (Below.refl _ _).alloc (Nat.le_refl _) _⟩
    case round =>
      obtain ⟨k, rfl, hk, hno, hrow, hbel⟩ := hrel
      by_cases hlt : k < s.size
      · have hat := at_eq s k hlt
        have hl : k < s.data.toList.length := hlt
        have hb : (s[k]'hlt).toNat < 256 := UInt8.toNat_lt _
        by_cases h0 : M.at' s.data.toList k = 0
        · have hr : M.put s.data.toList N = none := by
            unfold M.put
            rw [if_neg]
            rintro ⟨_, h⟩
            exact h ((zero_mem hl).1 h0 ▸ List.getElem_mem hl)
          rw [hat] at h0
          have he : (((s[k]'hlt).toNat : Int) == 0) = true := by simp; omega
          have HR := Lib.hid hr
          clear h0 hat hno hr hl
          go_wp2
          go_ret2
          rw [HR.out]
          exact PutIs.no hbel
        · have hno2 := not_mem_take_succ hl hno h0
          have hne : (((s[k]'hlt).toNat : Int) == 0) = false := by rw [hat] at h0; simp; omega
          have hc := hrow.cell (i := k) (by omega)
          have hf := hrow.frozen k
          have hset := hrow.set k ((s[k]'hlt).toNat : Int)
          have hset2 : RowB (wr.setCell ⟨w.heap.size, k, none⟩ (.int .u8 ((s[k]'hlt).toNat : Int))) w.heap.size N (rowTo s.data.toList (k + 1)) := hset.to (fun i _ => by
            unfold rowTo
            by_cases e : i = k
            · subst e; rw [if_pos rfl, if_pos (by omega), hat]
            · rw [if_neg e]
              by_cases e2 : i < k
              · rw [if_pos e2, if_pos (by omega)]
              · rw [if_neg e2, if_neg (by omega)])
          have HN := Lib.hid hno2
          clear hno hno2 h0 hat hl hset hrow
          by_cases hk0 : k = 0
          · subst hk0
            go_wp2
            go_roundw
            case rel => exact ⟨1, by go_num, by omega, HN.out, hset2, hbel.setCell (p := ⟨w.heap.size, 0, none⟩) (Nat.le_refl _) _⟩
            case measure => simp [intOf]; omega
          · have hk1 : 0 < k := by omega
            clear hk0
            go_wp2
            go_roundw
            case rel => exact ⟨k + 1, by go_num, by omega, HN.out, hset2, hbel.setCell (p := ⟨w.heap.size, k, none⟩) (Nat.le_refl _) _⟩
            case measure => simp [intOf]; omega
      · obtain rfl : k = s.size := by omega
        have hno' : ¬ (0 : UInt8) ∈ s.data.toList := by rw [← List.take_length (l := s.data.toList)]; exact hno
        have hr : M.put s.data.toList N = some (s.data.toList ++ List.replicate (N - s.size) 0) := by
          unfold M.put; rw [if_pos ⟨by rw [len_eq]; exact hw, hno'⟩, len_eq, Int.toNat_natCast]
        have hrd : Rd wr wr.heap.size (some ⟨w.heap.size, 0, none⟩) N (ints (s.data.toList ++ List.replicate (N - s.size) 0)) := RowB.rd (hrow.to (fun i _ => by rw [at_append_replicate, len_eq])) (by rw [List.length_append, len_eq, List.length_replicate]; omega)
        have HR := Lib.hid hr
        have HH := Lib.hid hrd
        clear hno hno' hr hrow hrd
        go_wp2
        go_ret2
        rw [HR.out]
        exact ⟨_, N, N, rfl, Nat.le_refl _, by omega, by simpa using HH.out, hbel, fun e => by cases e⟩
  · have hr : M.put s.data.toList n = none := by unfold M.put; rw [if_neg (fun h => by have := h.1; rw [len_eq] at this; omega)]
    rw [hr]
    clear hr
    have hw' : n < (s.size : Int) := by omega
    clear hw
    go_enter Tryd.func82, Tryd.ntmps82
    go_wp2
    go_ret2
    exact PutIs.no (Below.refl _ _)

theorem below_drewN' {B : Nat} {a w : World} (h : Below B a w) (n : Nat) : Below B a (w.drewN n) := ⟨h.os, h.tape, h.output, h.size, h.block⟩

theorem take_cut {l : List UInt8} (h : 0 ≤ Lib.indexByte l 0) : M.cut l = l.take (Lib.indexByte l 0).toNat := by
  induction l with
  | nil => simp [Lib.indexByte] at h
  | cons c l ih =>
    have e : Lib.indexByte (c :: l) 0 = if c == 0 then 0 else if Lib.indexByte l 0 == -1 then -1 else Lib.indexByte l 0 + 1 := rfl
    rw [e] at h ⊢
    rw [M.cut]
    by_cases hc : c = 0
    · subst hc; simp
    · have h1 : (c == 0) = false := by simpa using hc
      rw [h1] at h ⊢
      simp only [Bool.false_eq_true, if_false] at h ⊢
      rw [if_neg hc]
      split at h
      · omega
      · rename_i h2
        rw [if_neg h2]
        have hge := (M.indexByte_ge l 0).1
        have h3 : Lib.indexByte l 0 ≠ -1 := by simpa using h2
        rw [ih (by omega), show (Lib.indexByte l 0 + 1).toNat = (Lib.indexByte l 0).toNat + 1 by omega, List.take_succ_cons]

theorem bytesOf_ints (l : List UInt8) : Lib.bytesOf (ints l) = l := by
  unfold Lib.bytesOf ints
  rw [List.map_map]
  conv => rhs; rw [← List.map_id l]
  refine List.map_congr_left fun b _ => ?_
  simp

set_option maxRecDepth 100000 in
set_option maxHeartbeats 1000000 in
theorem cut_any (A : Option Addr) (n c : Nat) (l : List UInt8) (w : World) (h : Rd w w.heap.size A n (ints l)) (hc : n ≤ c) (hl : n ≤ 1000000) (hn : A = none → c = 0) :
    Calls Tryd.prog 55 #[.slice A n c] w fun e w' => e = .returned (.string ⟨(M.cut l).toArray⟩) ∧ Below w.heap.size w w' := by
  have hlen := h.len
  rw [ints_length] at hlen
  have hb : ∀ o, Below w.heap.size w (w.alloc o) := fun o => (Below.refl _ w).alloc (Nat.le_refl _) o
  have h' : ∀ o, Rd (w.alloc o) w.heap.size A n (ints l) := fun o => h.alloc (Nat.le_refl _) o
  have hidx : ∀ t fr, Calls Tryd.prog 90 #[.slice A n c, .slice (some ⟨w.heap.size, 0, none⟩) 1 1] (w.alloc (.cells #[.int .u8 0] t fr)) fun e w' => e = .returned (.int .i64 (Lib.indexByte l 0)) ∧ ∃ q, w' = (w.alloc (.cells #[.int .u8 0] t fr)).drewN q := by
    intro t fr
    have hz : (w.alloc (.cells #[.int .u8 0] t fr)).cell? ⟨w.heap.size, 0, none⟩ = some (.int .u8 0) := by rw [World.cell?_alloc_mark]; rfl
    cases A with
    | none =>
      have h0 : n = 0 := by
        rcases Nat.eq_zero_or_pos n with h0 | h0
        · exact h0
        · obtain ⟨b, off, e, _⟩ := h.2.2 h0; cases e
      subst h0
      obtain rfl : l = [] := List.eq_nil_of_length_eq_zero hlen
      obtain rfl := hn rfl
      exact (Tryd.bytes_Index_one_nil w.heap.size 0 1 0 _ hz).mono fun e w' ⟨he, hw⟩ => ⟨he, 0, hw⟩
    | some a =>
      rcases Nat.eq_zero_or_pos n with h0 | h0
      · subst h0
        obtain rfl : l = [] := List.eq_nil_of_length_eq_zero hlen
        exact (Tryd.bytes_Index_one_at a 0 c w.heap.size 0 1 [] 0 _ rfl (fun i hi => absurd hi (by omega)) hz).mono fun e w' ⟨he, hw⟩ => ⟨he, 0, hw⟩
      · obtain ⟨b, off, e, hbb, hcell⟩ := (h' (.cells #[.int .u8 0] t fr)).2.2 h0
        injection e with e
        subst e
        have := Tryd.bytes_Index_one b off n c w.heap.size 0 1 (ints l) 0 (w.alloc (.cells #[.int .u8 0] t fr)) (by rw [ints_length, hlen]) (fun i hi => by
          have hi' : i < (ints l).length := by rw [ints_length, hlen]; exact hi
          rw [hcell i _ (List.getElem?_eq_getElem hi'), List.getD_eq_getElem?_getD, List.getElem?_eq_getElem hi', Option.getD_some]) hz
        rw [bytesOf_ints] at this
        exact this.mono fun e w' ⟨he, hw⟩ => ⟨he, 0, hw⟩
  have hge := M.indexByte_ge l 0
  have hcut : ∀ t fr, Calls Tryd.prog 79 #[.slice A n c, .slice (some ⟨w.heap.size, 0, none⟩) 1 1] (w.alloc (.cells #[.int .u8 0] t fr)) fun e w' => e = .returned (Lib.cutV A n c 1 (Lib.indexByte l 0)) ∧ ∃ q, w' = (w.alloc (.cells #[.int .u8 0] t fr)).drewN q :=
    fun t fr => Tryd.bytes_Cut_of A (some ⟨w.heap.size, 0, none⟩) n c 1 1 _ _ hc hge.1 (fun _ => by omega) (by omega) (hidx t fr)
  by_cases h0 : 0 ≤ Lib.indexByte l 0
  · obtain ⟨x, hx⟩ : ∃ x, Lib.fromV A n c ((Lib.indexByte l 0).toNat + 1) = x := ⟨_, rfl⟩
    have hv : Lib.cutV A n c 1 (Lib.indexByte l 0) = .tuple #[.slice A (Lib.indexByte l 0).toNat c, x, .bool true] := by unfold Lib.cutV; rw [if_pos h0, hx]
    have htk := take_cut h0
    obtain ⟨k, hk⟩ : ∃ k, (Lib.indexByte l 0).toNat = k := ⟨_, rfl⟩
    rw [hk] at hv htk
    have hkn : k ≤ n := by omega
    have htxt : ∀ o q, (convert 22 9 (.slice A k c)).run Tryd.prog ((w.alloc o).drewN q) = .ok (.string ⟨(M.cut l).toArray⟩) ((w.alloc o).drewN q) := by
      intro o q
      have := ((h' o).drewN q).front hkn
      rw [ints_take, ← htk] at this
      exact run_text this c
    have HC : ∀ t fr, Calls Tryd.prog 79 #[.slice A n c, .slice (some ⟨w.heap.size, 0, none⟩) 1 1] (w.alloc (.cells #[.int .u8 0] t fr)) fun e w' => e = .returned (.tuple #[.slice A k c, x, .bool true]) ∧ ∃ q, w' = (w.alloc (.cells #[.int .u8 0] t fr)).drewN q := by
      intro t fr; have := hcut t fr; rw [hv] at this; exact this
    have HC := Lib.hid HC
    clear hcut hidx hx hv htk hk hge h0
    go_enter Tryd.func55, Tryd.ntmps55
    go_wp2_with (go_at_call 79; refine (HC.out _ _).mono ?_; rintro e w' ⟨rfl, q, rfl⟩)
    go_ret
    exact ⟨rfl, below_drewN' (hb _) q⟩
  · have hv : Lib.cutV A n c 1 (Lib.indexByte l 0) = .tuple #[.slice A n c, .slice none 0 0, .bool false] := by unfold Lib.cutV; rw [if_neg h0]
    have hno : M.cut l = l := M.zcut_none (fun h => h0 ((indexByte_zero l).1 h))
    have htxt : ∀ o q, (convert 22 9 (.slice A n c)).run Tryd.prog ((w.alloc o).drewN q) = .ok (.string ⟨(M.cut l).toArray⟩) ((w.alloc o).drewN q) := by
      intro o q
      rw [hno]
      exact run_text ((h' o).drewN q) c
    have HC : ∀ t fr, Calls Tryd.prog 79 #[.slice A n c, .slice (some ⟨w.heap.size, 0, none⟩) 1 1] (w.alloc (.cells #[.int .u8 0] t fr)) fun e w' => e = .returned (.tuple #[.slice A n c, .slice none 0 0, .bool false]) ∧ ∃ q, w' = (w.alloc (.cells #[.int .u8 0] t fr)).drewN q := by
      intro t fr; have := hcut t fr; rw [hv] at this; exact this
    have HC := Lib.hid HC
    clear hcut hidx hv hge h0 hno
    go_enter Tryd.func55, Tryd.ntmps55
    go_wp2_with (go_at_call 79; refine (HC.out _ _).mono ?_; rintro e w' ⟨rfl, q, rfl⟩)
    go_ret
    exact ⟨rfl, below_drewN' (hb _) q⟩

set_option maxRecDepth 100000 in
set_option maxHeartbeats 1000000 in
theorem refCut_any (A : Option Addr) (n c : Nat) (l : List UInt8) (w : World) (h : Rd w w.heap.size A n (ints l)) (hc : n ≤ c) (hl : n ≤ 1000000) :
    Calls Tryd.prog 60 #[.slice A n c] w fun e w' => e = .returned (.string ⟨(M.cut l).toArray⟩) ∧ w = w' := by
  have hlen := h.len
  rw [ints_length] at hlen
  go_enter Tryd.func60, Tryd.ntmps60
  go_wp2
  go_loop [3] (fun i => ∃ k : Nat, i = .int .i64 k ∧ k ≤ n ∧ ¬ (0 : UInt8) ∈ l.take k) (fun i => n - (intOf i).toNat)
  case atStart => exact ⟨0, rfl, Nat.zero_le _, by simp⟩
  case round =>
    obtain ⟨k, rfl, hk, hno⟩ := hrel
    by_cases hlt : k < n
    · obtain ⟨b, off, rfl, hbb, hcell⟩ := h.2.2 (by omega)
      have hkl : k < l.length := by omega
      have hck := hcell k _ (ints_at hkl)
      have hb256 : (l[k]).toNat < 256 := UInt8.toNat_lt _
      by_cases h0 : l[k] = 0
      · have hct := M.zcut_some hkl hno h0
        have htx := run_text (l := l.take k) (by have := h.front hk; rw [ints_take] at this; exact this) c
        rw [← hct] at htx
        have hz : ((l[k]).toNat : Int) = 0 := by rw [h0]; rfl
        rw [hz] at hck
        clear hcell hno h0 hct hz
        by_cases hk0 : k = 0
        · subst hk0
          simp only [Nat.add_zero] at hck
          go_wp2
          go_ret
          exact ⟨rfl, rfl⟩
        · have hk1 : 0 < k := by omega
          clear hk0
          go_wp2
          go_ret
          exact ⟨rfl, rfl⟩
      · have hno2 := not_mem_take_succ hkl hno (fun e => h0 ((zero_mem hkl).1 e))
        have hne : (((l[k]).toNat : Int) == 0) = false := by
          simp
          intro e
          exact h0 (UInt8.toNat_inj.1 e)
        have HN := Lib.hid hno2
        have HH := Lib.hid h
        clear hcell hno h0 hno2 h
        by_cases hk0 : k = 0
        · subst hk0
          simp only [Nat.add_zero] at hck
          go_wp2
          go_round
          case rel => exact ⟨1, by go_num, by omega, HN.out⟩
          case measure => simp [intOf]; omega
        · have hk1 : 0 < k := by omega
          clear hk0
          go_wp2
          go_round
          case rel => exact ⟨k + 1, by go_num, by omega, HN.out⟩
          case measure => simp [intOf]; omega
    · obtain rfl : k = n := by omega
      have hct : M.cut l = l := M.zcut_none (by rw [← List.take_length (l := l), hlen]; exact hno)
      have htx := run_text h c
      rw [← hct] at htx
      clear hno hct
      go_wp2
      go_ret
      exact ⟨rfl, rfl⟩
end Go.Proofs.YtbjejgnfnpednaaDoor.S
