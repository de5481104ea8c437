/-
  A time's text as choices say.
-/
import Derived.Test.YtahhgphlfodonaaDoorStpPrint
import Derived.LoopTactic
import Derived.Tactics
namespace Go.Proofs.YtahhgphlfodonaaDoor
open Go.RowKit

theorem rd_bytes {w : World} {B n : Nat} {A : Option Addr} {zs : List Int} (h : Rd w B A n zs) : ∃ l : List UInt8, zs = ints l := by
  have hb := h.bd
  clear h
  induction zs with
  | nil => exact ⟨[], rfl⟩
  | cons z zs ih =>
    obtain ⟨l, hl⟩ := ih (fun x hx => hb x (List.mem_cons_of_mem _ hx))
    have hz := hb z (by simp)
    refine ⟨UInt8.ofNat z.toNat :: l, ?_⟩
    have e : ((UInt8.ofNat z.toNat).toNat : Int) = z := by rw [UInt8.toNat_ofNat']; omega
    show z :: zs = ((UInt8.ofNat z.toNat).toNat : Int) :: ints l
    rw [e, hl]

namespace M
def ch (c : UInt8) : UInt8 := if c.toNat < 200 then UInt8.ofNat (48 + c.toNat % 10) else if c.toNat < 235 then 46 else if c.toNat < 248 then 45 else c
def text (l : List UInt8) : List UInt8 := (l.take 22).map ch
theorem text_len (l : List UInt8) : (text l).length ≤ 22 := by unfold text; rw [List.length_map, List.length_take]; omega
end M

/-- The text of one byte in a new row. -/
theorem run_one (W : World) (v : Nat) (hv : v < 256) : (convert 33 9 (.slice (some ⟨W.heap.size, 0, none⟩) 1 1)).run Tryd.prog (W.alloc (.cells #[.int .u8 (v : Int)] 5)) = .ok (.string ⟨#[UInt8.ofNat v]⟩) (W.alloc (.cells #[.int .u8 (v : Int)] 5)) := by
  have e : ((UInt8.ofNat v).toNat : Int) = (v : Int) := by rw [UInt8.toNat_ofNat']; omega
  have h := Rd.new W 5 [UInt8.ofNat v]
  have e2 : (Lib.byteCells [UInt8.ofNat v]).toArray = #[.int .u8 (v : Int)] := by
    unfold Lib.byteCells
    simp only [List.map_cons, List.map_nil, e]
  rw [e2] at h
  exact run_text h 1
theorem take_snoc {l : List UInt8} {k : Nat} {s : ByteArray} (hk : k < l.length) (hs : tl s = (l.take k).map M.ch) {x : ByteArray} (hx : tl x = [M.ch l[k]]) : tl (s ++ x) = (l.take (k + 1)).map M.ch := by
  rw [tl_append, hs, hx, List.take_succ_eq_append_getElem hk, List.map_append]
  rfl

set_option maxRecDepth 100000 in
set_option maxHeartbeats 4000000 in
theorem text_any (A : Option Addr) (c : Nat) (l : List UInt8) (hl : l.length ≤ c) (hc : c ≤ maxLen) (w : World) (h : Rd w w.heap.size A l.length (ints l)) :
    Calls Tryd.prog 14 #[.slice A l.length c] w (TextIs (M.text l) w) := by
  have HR := Lib.hid h
  have hlm : (l.length : Int) ≤ 9223372036854775807 := by unfold maxLen at hc; omega
  clear h
  go_enter Tryd.func14, Tryd.ntmps14
  go_wp2
  go_loopw [3, 4] (fun s3 s4 wr => ∃ (k : Nat) (s : ByteArray), s3 = .string s ∧ s4 = .int .i64 k ∧ k ≤ l.length ∧ k ≤ 22 ∧ s.size = k ∧ Hid (tl s = (l.take k).map M.ch) ∧ Below w.heap.size w wr) (fun _ s4 _ => 22 - (intOf s4).toNat)
  case atStart => exact ⟨0, ⟨#[]⟩, rfl, rfl, Nat.zero_le _, Nat.zero_le _, rfl, Lib.hid rfl, Below.refl _ _⟩
  case round =>
    obtain ⟨k, s, rfl, rfl, hkl, hk22, hsz, hS, hb⟩ := hrel
    by_cases hlt : k < l.length ∧ k < 22
    · obtain ⟨hlt1, hlt2⟩ := hlt
      obtain ⟨b, off, z, rfl, hbb, hz0, hz1, hzk, hcell⟩ := HR.out.at_ hlt1
      rw [ints_at hlt1] at hzk
      injection hzk with hzk
      have hcw := (hb.cell (p := ⟨b, off + k, none⟩) hbb).trans hcell
      obtain ⟨z', hz'⟩ : ∃ z' : Nat, (l[k]).toNat = z' := ⟨_, rfl⟩
      rw [hz'] at hzk
      subst hzk
      have hz256 : z' < 256 := by omega
      have hchar : M.ch l[k] = if z' < 200 then UInt8.ofNat (48 + z' % 10) else if z' < 235 then 46 else if z' < 248 then 45 else UInt8.ofNat z' := by
        unfold M.ch
        rw [hz']
        have : l[k] = UInt8.ofNat z' := by rw [← hz', UInt8.ofNat_toNat]
        rw [this]
      have hstep := fun (x : ByteArray) (hx : tl x = [M.ch l[k]]) => take_snoc hlt1 hS.out hx
      rw [hchar] at hstep
      clear hchar hz' hS hcell
      have hcv : ∀ W : World, (convert 33 9 (.slice (some ⟨W.heap.size, 0, none⟩) 1 1)).run Tryd.prog (W.alloc (.cells #[.int .u8 (48 + (z' : Int) % 10)] 5)) = .ok (.string ⟨#[UInt8.ofNat (48 + z' % 10)]⟩) (W.alloc (.cells #[.int .u8 (48 + (z' : Int) % 10)] 5)) := fun W => by
        have := run_one W (48 + z' % 10) (by omega)
        have e : ((48 + z' % 10 : Nat) : Int) = 48 + (z' : Int) % 10 := by omega
        rw [e] at this
        exact this
      have hcz := fun W => run_one W z' hz256
      generalize UInt8.ofNat (48 + z' % 10) = dg at *
      generalize UInt8.ofNat z' = dz at *
      have HCV := Lib.hid hcv
      have HCZ := Lib.hid hcz
      clear hcv hcz
      by_cases h0 : k = 0
      case' pos =>
        subst h0
        simp only [Nat.add_zero] at hcw
        have g1 : (0 : Int) < (l.length : Int) := by omega
      case' neg =>
        have g1 : 0 < k := by omega
        have g2 : (k : Int) < 22 := by omega
        have g3 : (k : Int) < (l.length : Int) := by omega
        clear h0
      all_goals
        by_cases c1 : z' < 200
        · rw [if_pos c1] at hstep
          have HS := Lib.hid hstep
          have hcv := HCV.out
          have e1 : decide ((z' : Int) < 200) = true := by rw [decide_eq_true_eq]; omega
          clear hstep c1
          go_wp2
          go_roundw
          case rel => exact ⟨_, _, rfl, (show Value.int .i64 _ = Value.int .i64 ((_ + 1 : Nat) : Int) by go_num), by omega, by omega, by rw [ByteArray.size_append, hsz]; rfl, Lib.hid (HS.out _ rfl), hb.alloc hb.size _⟩
          case measure => (simp [intOf]; try omega)
        · rw [if_neg c1] at hstep
          have e1 : decide ((z' : Int) < 200) = false := by rw [decide_eq_false_iff_not]; omega
          clear c1
          by_cases c2 : z' < 235
          · rw [if_pos c2] at hstep
            have HS := Lib.hid hstep
            have e2 : decide ((z' : Int) < 235) = true := by rw [decide_eq_true_eq]; omega
            clear hstep c2
            go_wp2
            go_roundw
            case rel => exact ⟨_, _, rfl, (show Value.int .i64 _ = Value.int .i64 ((_ + 1 : Nat) : Int) by go_num), by omega, by omega, by rw [ByteArray.size_append, hsz]; rfl, Lib.hid (HS.out _ rfl), hb⟩
            case measure => (simp [intOf]; try omega)
          · rw [if_neg c2] at hstep
            have e2 : decide ((z' : Int) < 235) = false := by rw [decide_eq_false_iff_not]; omega
            clear c2
            by_cases c3 : z' < 248
            · rw [if_pos c3] at hstep
              have HS := Lib.hid hstep
              have e3 : decide ((z' : Int) < 248) = true := by rw [decide_eq_true_eq]; omega
              clear hstep c3
              go_wp2
              go_roundw
              case rel => exact ⟨_, _, rfl, (show Value.int .i64 _ = Value.int .i64 ((_ + 1 : Nat) : Int) by go_num), by omega, by omega, by rw [ByteArray.size_append, hsz]; rfl, Lib.hid (HS.out _ rfl), hb⟩
              case measure => (simp [intOf]; try omega)
            · rw [if_neg c3] at hstep
              have HS := Lib.hid hstep
              have hcz := HCZ.out
              have e3 : decide ((z' : Int) < 248) = false := by rw [decide_eq_false_iff_not]; omega
              clear hstep c3
              go_wp2
              go_roundw
              case rel => exact ⟨_, _, rfl, (show Value.int .i64 _ = Value.int .i64 ((_ + 1 : Nat) : Int) by go_num), by omega, by omega, by rw [ByteArray.size_append, hsz]; rfl, Lib.hid (HS.out _ rfl), hb.alloc hb.size _⟩
              case measure => (simp [intOf]; try omega)
    · have hfin : tl s = M.text l := by
        rw [hS.out]
        unfold M.text
        by_cases h22 : k = 22
        · rw [h22]
        · have : k = l.length := by omega
          rw [List.take_of_length_le (by omega), List.take_of_length_le (by omega)]
      have HF := Lib.hid hfin
      clear hfin hS
      by_cases hk : k < l.length
      case' pos =>
        have e1 : decide (k < l.length) = true := by rw [decide_eq_true_eq]; exact hk
        have e2 : decide ((k : Int) < 22) = false := by rw [decide_eq_false_iff_not]; omega
      case' neg =>
        have e1 : decide (k < l.length) = false := by rw [decide_eq_false_iff_not]; exact hk
      all_goals
        clear hlt hk
        go_wp2
        go_ret
        exact ⟨ret_text HF.out, hb⟩
end Go.Proofs.YtahhgphlfodonaaDoor
