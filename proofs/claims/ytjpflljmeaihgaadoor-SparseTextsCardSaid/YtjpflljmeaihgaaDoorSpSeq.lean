/-
  strings.SplitSeq at a comma: the function that it gives yields what lies between commas, in order, till a round stops it.
-/
import Derived.Test.YtjpflljmeaihgaaDoorIterLaw
import Derived.Test.YtjpflljmeaihgaaDoorSpCuts
import Derived.Test.YtjpflljmeaihgaaDoorSpMem
import Derived.Test.YtjpflljmeaihgaaDoorShelf
import Derived.Lib.Hide
import Derived.IntWalk
import Derived.Tactics
namespace Go.Proofs.YtjpflljmeaihgaaDoor
open Go.RowKit Go.Shelf
attribute [local go_sem] Oper.semAt_some

def sl : ByteArray := ⟨#[44]⟩

/-- What the function of SplitSeq finds in its boxes. -/
def SeqOk (b1 b2 b3 : Nat) (s : ByteArray) (W : World) : Prop :=
  Boxed W b1 9 (.string sl) ∧ Boxed W b2 9 (.string s) ∧ Boxed W b3 3 (.int .i64 0)

theorem boxed_turned {own : Nat → Prop} {A B : World} {b : Nat} {t : TypeId} {v : Value} (h : Boxed A b t v) (ht : Turned own A B) (hn : ¬ own b) : Boxed B b t v := (ht.block b h.lt hn).trans h
theorem boxed_spared {own : Nat → Prop} {A B : World} {b : Nat} {t : TypeId} {v : Value} (h : Boxed A b t v) (ht : Spared own A B) (hn : own b) : Boxed B b t v := (ht.block b hn h.lt).trans h

theorem tl_take (r : ByteArray) (k : Nat) : tl (r.extract 0 k) = (tl r).take k := by
  unfold tl; simp [ByteArray.data_extract]
theorem tl_drop (r : ByteArray) (k : Nat) : tl (r.extract k r.size) = (tl r).drop k := by
  unfold tl; simp [ByteArray.data_extract]
  rw [List.take_of_length_le]
  simp

theorem boxed_set_far {A : World} {b c : Nat} {t : TypeId} {v u : Value} (h : Boxed A b t v) (hne : b ≠ c) : Boxed (A.setCell ⟨c, 0, none⟩ u) b t v := h.kept (grownBy_setCell' A c u) (fun e => hne (by injection e))

def pvOf (b1 b2 b3 k : Nat) : Prop := k = b1 ∨ k = b2 ∨ k = b3

/-- The list so far and the rest. -/
def SeqAt (s : ByteArray) (b1 b2 b3 : Nat) (J : List ByteArray → World → Prop) (pre : List ByteArray) (r : ByteArray) (wr : World) : Prop :=
  M.cuts (tl s) = pre.map tl ++ M.cuts (tl r) ∧ SeqOk b1 b2 b3 r wr ∧ J pre wr

def strLen : Option Value → Nat
  | some (.string r) => r.size
  | _ => 0

set_option maxRecDepth 100000 in
set_option maxHeartbeats 1000000 in
theorem seq_iter (s : ByteArray) (hs : s.size ≤ 1000000) (b1 b2 b3 : Nat) (h12 : b1 ≠ b2) (h32 : b3 ≠ b2) :
    Iter Tryd.prog 44 #[.pointer (some ⟨b1, 0, none⟩), .pointer (some ⟨b2, 0, none⟩), .pointer (some ⟨b3, 0, none⟩)] (fun x : ByteArray => #[.string x]) (pvOf b1 b2 b3) 0
      (fun xs => xs.map tl = M.cuts (tl s)) (fun pre => pre.map tl <+: M.cuts (tl s)) (fun xs => xs.map tl <+: M.cuts (tl s)) (SeqOk b1 b2 b3 s) := by
  intro n l J Jx W hok hJ hJx hY h0
  refine callsIn_of_wp Tryd.func44 rfl trivial ?_ rfl
  simp only [Tryd.ntmps44, List.size_toArray, List.length_cons, List.length_nil, Nat.reduceAdd, Nat.reduceSub, Array.replicate_succ, Array.replicate_zero, List.push_toArray, List.append_toArray, List.nil_append, List.cons_append]
  have hc1 := hok.1.cell
  have hc2 := hok.2.1.cell
  have hc3 := hok.2.2.cell
  unfold sl at hc1
  gi_wp2_with fail
  gi_loopw [7] (fun _ wr => ∃ pre r, SeqAt s b1 b2 b3 J pre r wr ∧ W.heap.size ≤ wr.heap.size) (fun _ wr => strLen (wr.cell? ⟨b2, 0, none⟩))
  case atStart => exact ⟨[], s, ⟨by simp, hok, h0⟩, Nat.le_refl _⟩
  case round =>
    obtain ⟨pre, r, ⟨hp, ⟨hb1, hb2, hb3⟩, hj⟩, hsz⟩ := hrel
    have hc1 := hb1.cell
    have hc2 := hb2.cell
    have hc3 := hb3.cell
    have hf2 := hb2.frozen
    unfold sl at hc1
    have hge := M.indexByte_ge (tl r) 44
    have hrl : (tl r).length = r.size := rfl
    by_cases hi : Lib.indexByte (tl r) 44 = -1
    · have hlast := M.cut_none hi
      obtain ⟨fn, tmps, assign, body, hy, hR⟩ := hY (n - 1) pre r wr hj (by omega) (by rw [hp, hlast]; simp)
      have HP := Lib.hid hp; clear hp
      have HL := Lib.hid hlast; clear hlast
      have HI := Lib.hid hi; clear hi
      clear hrl
      gi_wp2_with (first
        | (refine ⟨trivial, noDepth, ?_⟩; gi_at_call 46; refine (callsIn_wide.2 (Tryd.strings_Index_one _ _ _)).mono ?_; rintro e w' ⟨rfl, rfl⟩; rw [show Lib.indexByte r.data.toList 44 = -1 from HI.out]))
      refine ⟨noDepth, ?_⟩
      refine hR.mono ?_
      rintro e W' ⟨hsp, ⟨rfl, hj'⟩ | ⟨rfl, hj'⟩⟩
      · gi_wp2
        go_end0
        refine ⟨⟨_, rfl⟩, .inl ⟨_, ?_, hj'⟩⟩
        rw [HP.out, HL.out]; simp
      · gi_wp2
        go_end0
        refine ⟨⟨_, rfl⟩, .inr ⟨_, ?_, hj'⟩⟩
        rw [HP.out, HL.out]; simp
    · obtain ⟨k, hk⟩ : ∃ k : Nat, Lib.indexByte (tl r) 44 = k := ⟨(Lib.indexByte (tl r) 44).toNat, by omega⟩
      obtain ⟨hkl, hcut⟩ := M.cut_some hk
      rw [hrl] at hkl
      obtain ⟨fn, tmps, assign, body, hy, hR⟩ := hY (n - 1) pre (r.extract 0 k) wr hj (by omega) (by rw [hp, hcut]; simp only [List.map_append, List.map_cons, List.map_nil, tl_take]; exact ⟨M.cuts (List.drop (k + 1) (tl r)), by simp⟩)
      have HP := Lib.hid hp; clear hp
      have HC := Lib.hid hcut; clear hcut
      have HK := Lib.hid hk; clear hk
      have hk2 : r.size ≤ 1000000 := by
        have h1 := M.cuts_tail HP.out
        have h2 : (tl s).length = s.size := rfl
        omega
      clear hrl hi hge
      gi_wp2_with (first
        | (refine ⟨trivial, noDepth, ?_⟩; gi_at_call 46; refine (callsIn_wide.2 (Tryd.strings_Index_one _ _ _)).mono ?_; rintro e w' ⟨rfl, rfl⟩; rw [show Lib.indexByte r.data.toList 44 = (k : Int) from HK.out]))
      refine ⟨noDepth, ?_⟩
      refine hR.mono ?_
      rintro e W' ⟨hsp, ⟨rfl, hj'⟩ | ⟨rfl, hj'⟩⟩
      · have gb1 := boxed_spared hb1 hsp (.inl (.inl rfl))
        have gb2 := boxed_spared hb2 hsp (.inl (.inr (.inl rfl)))
        have gb3 := boxed_spared hb3 hsp (.inl (.inr (.inr rfl)))
        have gc1 := gb1.cell
        have gc2 := gb2.cell
        have gf2 := gb2.frozen
        unfold sl at gc1
        have e1 : IntKind.i64.wrap ((k : Int) + 1) = (k : Int) + 1 := IntWalk.i64_in _ (by omega)
        have e3 : (1 : Int) + (k : Int) = ((k + 1 : Nat) : Int) := by omega
        gi_wp2
        refine ⟨⟨pre ++ [r.extract 0 k], r.extract (k + 1) r.size, ⟨?_, ⟨boxed_set_far gb1 (fun e => h12 e), gb2.set _, boxed_set_far gb3 (fun e => h32 e)⟩, ?_⟩, ?_⟩, ?_⟩
        · rw [HP.out, HC.out, tl_drop]
          simp [tl_take]
        · exact hJ _ _ _ hj' (Turned.setCell (.inl (.inr (.inl rfl))) _ _)
        · exact Nat.le_trans hsz (Nat.le_trans hsp.size (Turned.setCell (own := fun _ => True) (p := ⟨b2, 0, none⟩) trivial W' _).size)
        · rw [(gb2.set (.string (r.extract (k + 1) r.size))).cell, hc2]
          simp only [strLen, ByteArray.size_extract]
          omega
      · gi_wp2
        refine bodyPost_ret (results_none rfl _ _ _) rfl ?_
        refine ⟨⟨_, rfl⟩, .inr ⟨_, ?_, hj'⟩⟩
        rw [HP.out, HC.out]
        simp only [List.map_append, List.map_cons, List.map_nil, tl_take]
        exact ⟨M.cuts (List.drop (k + 1) (tl r)), by simp⟩

set_option maxHeartbeats 1000000 in
/-- SplitSeq at a comma. -/
theorem seq_make (s : ByteArray) (w : World) :
    Calls Tryd.prog 27 #[.string s, .string sl] w fun e w' =>
      e = .returned (.func (.func 44) #[] #[.pointer (some ⟨w.heap.size + 1, 0, none⟩), .pointer (some ⟨w.heap.size, 0, none⟩), .pointer (some ⟨w.heap.size + 2, 0, none⟩)]) ∧
        w' = ((w.alloc (.cells #[.string s] 9)).alloc (.cells #[.string sl] 9)).alloc (.cells #[.int .i64 0] 3) := by
  go_enter Tryd.func27, Tryd.ntmps27
  go_wp2
  go_ret
  exact ⟨rfl, rfl⟩

theorem seq_ok (s : ByteArray) (w : World) (o1 o2 : Obj) :
    SeqOk (w.heap.size + 1) w.heap.size (w.heap.size + 2) s (((((w.alloc (.cells #[.string s] 9)).alloc (.cells #[.string sl] 9)).alloc (.cells #[.int .i64 0] 3)).alloc o1).alloc o2) := by
  refine ⟨?_, ?_, ?_⟩
  · have h := Boxed.new (w.alloc (.cells #[.string s] 9)) 9 (.string sl)
    rw [World.size_alloc] at h
    exact ((h.alloc _).alloc _).alloc _
  · exact ((((Boxed.new w 9 (.string s)).alloc _).alloc _).alloc _).alloc _
  · have h := Boxed.new ((w.alloc (.cells #[.string s] 9)).alloc (.cells #[.string sl] 9)) 3 (.int .i64 0)
    rw [World.size_alloc, World.size_alloc] at h
    exact (h.alloc _).alloc _
end Go.Proofs.YtjpflljmeaihgaaDoor
