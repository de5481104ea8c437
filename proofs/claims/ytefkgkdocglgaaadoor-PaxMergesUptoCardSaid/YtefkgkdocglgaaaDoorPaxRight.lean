/-
  May a record be: the program's answer and the document's.
-/
import Derived.Test.YtefkgkdocglgaaaDoorPaxMem
import Derived.Test.YtefkgkdocglgaaaDoorShelf
import Derived.Laws.RangeString
import Derived.Laws.RangeAny
import Derived.LoopTactic
namespace Go.Proofs.YtefkgkdocglgaaaDoor
open Go.RowKit Go.Shelf

theorem all_not {p : UInt8 → Bool} {l : List UInt8} {k : Nat} (hk : k < l.length) (h : p l[k] = false) : l.all p = false := by
  rw [List.all_eq_false]
  exact ⟨l[k], List.getElem_mem hk, by rw [h]; decide⟩
theorem all_take_succ {p : UInt8 → Bool} {l : List UInt8} {k : Nat} (hk : k < l.length) (h : (l.take k).all p = true) (h2 : p l[k] = true) : (l.take (k + 1)).all p = true := by
  rw [List.take_succ_eq_append_getElem hk, List.all_append, h, Bool.true_and, List.all_cons, h2, List.all_nil]; rfl
theorem keyOk_iff (c : UInt8) : M.keyOk c = true ↔ 33 ≤ c.toNat ∧ c.toNat ≤ 126 ∧ c.toNat ≠ 61 := by
  unfold M.keyOk
  simp [and_assoc]
theorem right_no_key {s t : ByteArray} (h : (tl s).all M.keyOk = false) : M.right (rc (s, t)) = false := by
  unfold M.right rc; dsimp only; rw [h]; rfl
theorem right_keys {s t : ByteArray} (h : (tl s).all M.keyOk = true) : M.right (rc (s, t)) = ((tl t).all (fun c => !(c == 0)) && !(tl s).isEmpty) := by
  unfold M.right rc; dsimp only; rw [h]; rfl
theorem decode_low (s : ByteArray) (pos : Nat) (h : pos < s.size) (hb : (s[pos]'h).toNat < 128) : Utf8.decode s pos = ((s[pos]'h).toNat, 1) := by
  unfold Utf8.decode
  simp only [get_at s pos h, if_pos hb]
theorem at_tl (s : ByteArray) (k : Nat) (h : k < s.size) : (tl s)[k]'h = s[k]'h := rfl

theorem indexByte_all : ∀ (l : List UInt8), (Lib.indexByte l 0 = -1 ∧ l.all (fun c => !(c == 0)) = true) ∨ (0 ≤ Lib.indexByte l 0 ∧ l.all (fun c => !(c == 0)) = false)
  | [] => .inl ⟨rfl, rfl⟩
  | b :: l => by
    have e : Lib.indexByte (b :: l) 0 = if b == 0 then 0 else if Lib.indexByte l 0 == -1 then -1 else Lib.indexByte l 0 + 1 := rfl
    rw [e, List.all_cons]
    clear e
    cases hb : (b == 0) with
    | true => exact .inr ⟨by simp, rfl⟩
    | false =>
      rcases indexByte_all l with ⟨h1, h2⟩ | ⟨h1, h2⟩
      · rw [h1, h2]; exact .inl ⟨rfl, rfl⟩
      · rw [h2]
        have h3 : (Lib.indexByte l 0 == -1) = false := by simp; omega
        rw [h3]
        exact .inr ⟨by simp; omega, by simp⟩

theorem riterPos (w : World) (o : Obj) (s : ByteArray) (p : Nat) : ((w.alloc o).iter s p).iterPos (w.heap.size + 1) = p := by
  have := World.iterPos_iter (w.alloc o) s p
  rwa [World.size_alloc] at this
theorem riter_cell (w : World) (s t : ByteArray) (p j : Nat) : ((w.alloc (.cells #[.string s, .string t] 45)).iter s p).cell? ⟨w.heap.size, j, none⟩ = (#[Value.string s, .string t] : Array Value)[j]? := by
  unfold World.iter
  rw [World.cell?_alloc_lt _ _ _ (by simp)]
  exact cell_of_row _ _ _ _ _ _ (heap_alloc_new w _)
theorem rbelow_iter (w : World) (o : Obj) (s : ByteArray) (pos : Nat) : Below w.heap.size w ((w.alloc o).iter s pos) := ((Below.refl _ w).alloc (Nat.le_refl _) _).alloc (by simp) _

set_option maxRecDepth 100000 in
set_option maxHeartbeats 1000000 in
theorem right_any' (s t : ByteArray) (w : World) :
    Calls Tryd.prog 25 #[.agg #[.string s, .string t]] w fun e w' => e = .returned (.bool (M.right (rc (s, t)))) ∧ Below w.heap.size w w' := by
  have HI := Lib.hid (indexByte_all (tl t))
  go_enter Tryd.func25, Tryd.ntmps25
  go_wp2
  go_loopw [4] (fun _ w' => ∃ pos : Nat, w' = (w.alloc (.cells #[.string s, .string t] 45)).iter s pos ∧ pos ≤ s.size ∧ ((tl s).take pos).all M.keyOk = true) (fun _ w' => s.size - w'.iterPos (w.heap.size + 1))
  case atStart => exact ⟨0, rfl, Nat.zero_le _, rfl⟩
  case round =>
    obtain ⟨pos, rfl, hle, hu⟩ := hrel
    have hbel := rbelow_iter w (.cells #[.string s, .string t] 45) s
    by_cases hp : pos < s.size
    · have hnx := fun ty => run_next_any (P := Tryd.prog) (w.alloc (.cells #[.string s, .string t] 45)) s pos ty hp
      simp only [World.size_alloc] at hnx
      by_cases hb : (s[pos]'hp).toNat < 128
      · simp only [decode_low s pos hp hb] at hnx
        by_cases hk : M.keyOk ((tl s)[pos]'hp) = true
        · have hs := all_take_succ hp hu hk
          rw [keyOk_iff, at_tl] at hk
          obtain ⟨k1, k2, k3⟩ := hk
          have HS := Lib.hid hs
          have e1 : decide (((s[pos]'hp).toNat : Int) < 33) = false := by rw [decide_eq_false_iff_not]; omega
          have e2 : decide (((s[pos]'hp).toNat : Int) > 126) = false := by rw [decide_eq_false_iff_not]; omega
          have e3 : (((s[pos]'hp).toNat : Int) == 61) = false := by simp; omega
          clear hs hu
          go_wp2
          refine ⟨⟨pos + 1, rfl, by omega, HS.out⟩, ?_⟩
          simp only [riterPos]; omega
        · have hk' : M.keyOk ((tl s)[pos]'hp) = false := by simpa using hk
          have hf := right_no_key (t := t) (all_not hp hk')
          rw [keyOk_iff, at_tl] at hk
          have HF := Lib.hid hf
          clear hf hk' hu
          by_cases c1 : (s[pos]'hp).toNat < 33
          · have e1 : decide (((s[pos]'hp).toNat : Int) < 33) = true := by rw [decide_eq_true_eq]; omega
            clear hk
            go_wp2
            go_ret
            exact ⟨ret_bool HF.out.symm, hbel _⟩
          · have e1 : decide (((s[pos]'hp).toNat : Int) < 33) = false := by rw [decide_eq_false_iff_not]; omega
            by_cases c2 : 126 < (s[pos]'hp).toNat
            · have e2 : decide (((s[pos]'hp).toNat : Int) > 126) = true := by rw [decide_eq_true_eq]; omega
              clear hk
              go_wp2
              go_ret
              exact ⟨ret_bool HF.out.symm, hbel _⟩
            · have e2 : decide (((s[pos]'hp).toNat : Int) > 126) = false := by rw [decide_eq_false_iff_not]; omega
              have e3 : (((s[pos]'hp).toNat : Int) == 61) = true := by simp; omega
              clear hk
              go_wp2
              go_ret
              exact ⟨ret_bool HF.out.symm, hbel _⟩
      · have hh := (decode_high s pos hp (by omega)).1
        have hl := decode_le s pos
        have hk' : M.keyOk ((tl s)[pos]'hp) = false := by
          rw [← Bool.not_eq_true, keyOk_iff, at_tl]; omega
        have HF := Lib.hid (right_no_key (t := t) (all_not hp hk'))
        clear hk' hu
        generalize (Utf8.decode s pos).1 = c at *
        generalize (Utf8.decode s pos).2 = n at *
        have e1 : decide ((c : Int) < 33) = false := by rw [decide_eq_false_iff_not]; omega
        have e2 : decide ((c : Int) > 126) = true := by rw [decide_eq_true_eq]; omega
        go_wp2
        go_ret
        exact ⟨ret_bool HF.out.symm, hbel _⟩
    · have hnx : ∀ ty, (Instr.next (.pointer (some ⟨w.heap.size + 1, 0, none⟩)) true ty).run Tryd.prog ((w.alloc (.cells #[.string s, .string t] 45)).iter s pos) = _ := fun ty => by
        have := run_next_end (P := Tryd.prog) (w.alloc (.cells #[.string s, .string t] 45)) s pos ty hp
        simp only [World.size_alloc] at this
        exact this
      have hall : (tl s).all M.keyOk = true := by
        rw [List.take_of_length_le (by rw [tl_len]; omega)] at hu; exact hu
      have hr := right_keys (t := t) hall
      have hc1 := riter_cell w s t pos 1
      have hc0 := riter_cell w s t pos 0
      simp only [List.getElem?_toArray, List.getElem?_cons_zero, List.getElem?_cons_succ] at hc0 hc1
      by_cases h0 : tl s = []
      · obtain rfl : s = ⟨#[]⟩ := tl_inj (by rw [h0]; rfl)
        have hr2 : M.right (rc ((⟨#[]⟩ : ByteArray), t)) = false := by rw [hr]; simp [tl]
        have HF := Lib.hid hr2
        clear hr hr2 hall hu h0
        go_wp2
        go_ret
        exact ⟨ret_bool HF.out.symm, hbel _⟩
      · have hne : (tl s).isEmpty = false := by simpa using h0
        have hne2 : (!s.toList.isEmpty) = true := by
          rw [tl_eq, hne]; rfl
        rw [hne] at hr
        rcases HI.out with ⟨h1, h2⟩ | ⟨h1, h2⟩
        · rw [h2] at hr
          have HF := Lib.hid hr
          have HX := Lib.hid h1
          clear hr hall hu h0 hne h1 h2
          go_wp2_with (go_at_call 38; refine (Tryd.strings_IndexByte _ _ _).mono ?_; rintro e w' ⟨rfl, rfl⟩; rw [show Lib.indexByte t.data.toList (0 : Int).toNat.toUInt8 = -1 from HX.out])
          go_ret
          exact ⟨ret_bool HF.out.symm, hbel _⟩
        · rw [h2] at hr
          have HF := Lib.hid hr
          have hd : decide (Lib.indexByte t.data.toList (0 : Int).toNat.toUInt8 < 0) = false := by rw [decide_eq_false_iff_not]; show ¬ Lib.indexByte (tl t) 0 < 0; omega
          obtain ⟨z, hz⟩ : ∃ z, Lib.indexByte t.data.toList (0 : Int).toNat.toUInt8 = z := ⟨_, rfl⟩
          rw [hz] at hd
          have HZ := Lib.hid hz
          clear hr hall hu h0 hne h1 h2 hz
          go_wp2_with (go_at_call 38; refine (Tryd.strings_IndexByte _ _ _).mono ?_; rintro e w' ⟨rfl, rfl⟩; rw [HZ.out])
          go_ret
          exact ⟨ret_bool HF.out.symm, hbel _⟩
end Go.Proofs.YtefkgkdocglgaaaDoor
