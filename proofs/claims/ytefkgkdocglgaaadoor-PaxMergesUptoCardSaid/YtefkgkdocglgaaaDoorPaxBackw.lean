/-
  slices.Backward over records: the function that it gives yields them, the last first, till a round stops it.
-/
import Derived.Test.YtefkgkdocglgaaaDoorPaxRange
import Derived.Test.YtefkgkdocglgaaaDoorPaxMergeW
namespace Go.Proofs.YtefkgkdocglgaaaDoor
open Go.RowKit Go.Shelf
attribute [local go_sem] Oper.semAt_some

theorem boxed_turned {own : Nat → Prop} {A B : World} {b : Nat} {t : TypeId} {v : Value} (h : Boxed A b t v) (ht : Turned own A B) (hn : ¬ own b) : Boxed B b t v := (ht.block b h.lt hn).trans h
theorem boxed_spared {own : Nat → Prop} {A B : World} {b : Nat} {t : TypeId} {v : Value} (h : Boxed A b t v) (ht : Spared own A B) (hn : own b) : Boxed B b t v := (ht.block b hn h.lt).trans h

def encP (x : Nat × R2) : Array Value := #[.int .i64 x.1, .agg #[.string x.2.1, .string x.2.2]]

set_option maxRecDepth 100000 in
set_option maxHeartbeats 2000000 in
theorem back_iter (A : Option Addr) (c : Nat) (l : List R2) (hl : l.length ≤ 1000000) (b B : Nat) :
    IterK Tryd.prog 48 #[.pointer (some ⟨b, 0, none⟩)] encP (fun k => k = b) 0
      (fun xs => xs.map Prod.snd = l.reverse) (fun pre => pre.map Prod.snd <+: l.reverse) (fun xs => xs.map Prod.snd <+: l.reverse) (fun W => Boxed W b 23 (.slice A l.length c)) (fun W => RdR W B A l) := by
  intro n y J Jx W hok hJ hJx hY hKp h0
  refine callsIn_of_wp Tryd.func48 rfl trivial ?_ rfl
  simp only [Tryd.ntmps48, List.size_toArray, List.length_cons, List.length_nil, Nat.reduceAdd, Nat.reduceSub, Array.replicate_succ, Array.replicate_zero, List.push_toArray, List.append_toArray, List.nil_append, List.cons_append]
  have hc1 := hok.cell
  gi_wp2_with fail
  gi_loopw [3] (fun i wr => ∃ (pre : List (Nat × R2)) (k : Nat) (z : Int), i = .int .i64 z ∧ z = (k : Int) - 1 ∧ k ≤ l.length ∧ Hid (pre.map Prod.snd = (l.drop k).reverse) ∧ Boxed wr b 23 (.slice A l.length c) ∧ J pre wr ∧ W.heap.size ≤ wr.heap.size) (fun i _ => (intOf i + 1).toNat)
  case atStart => exact ⟨[], l.length, _, rfl, by omega, Nat.le_refl _, Lib.hid (by simp), hok, h0, Nat.le_refl _⟩
  case round =>
    obtain ⟨pre, k, z, rfl, hz, hk, hp, hb, hj, hsz⟩ := hrel
    have hc1 := hb.cell
    rcases k with _ | j
    · have hz2 : z < 0 := by omega
      have hz3 : z = -1 := by omega
      subst hz3
      clear hz hz2
      gi_wp2
      go_end0
      refine ⟨⟨_, rfl⟩, .inl ⟨_, ?_, hj⟩⟩
      rw [hp.out, List.drop_zero]
    · obtain rfl : z = (j : Int) := by omega
      have hjl : j < l.length := by omega
      obtain ⟨bb, off, rfl, hbb, hd1, hd2⟩ := (hKp _ _ hj).at_ hjl
      have hpx : (pre ++ [(j, l[j])]).map Prod.snd = (l.drop j).reverse := by
        rw [List.drop_eq_getElem_cons hjl, List.reverse_cons, List.map_append, hp.out]; rfl
      have hpre : (l.drop j).reverse <+: l.reverse := by
        conv => rhs; rw [← List.take_append_drop j l]
        rw [List.reverse_append]
        exact List.prefix_append _ _
      obtain ⟨fn, tmps, assign, body, hy, hR⟩ := hY (n - 1) pre (j, l[j]) wr hj (by omega) (by rw [hpx]; exact hpre)
      have HPX := Lib.hid hpx
      have HPR := Lib.hid hpre
      obtain ⟨r, hr⟩ : ∃ r, l[j] = r := ⟨_, rfl⟩
      rw [hr] at hy hR hd1 hd2 HPX
      dsimp only [encP] at hy
      clear hpx hpre hr hz hp
      by_cases hj0 : j = 0
      case' pos =>
        subst hj0
        simp only [Nat.zero_mul, Nat.add_zero] at hd1 hd2
        simp only [Int.natCast_zero] at hy ⊢
      case' neg =>
        have hj1 : 0 < j := by omega
        clear hj0
      all_goals
        gi_wp2
        refine ⟨noDepth, ?_⟩
        refine hR.mono ?_
        rintro e W' ⟨hsp, ⟨rfl, hj'⟩ | ⟨rfl, hj'⟩⟩
        · have g := boxed_spared hb hsp (.inl rfl)
          gi_wp2
          refine ⟨⟨pre ++ [(_, r)], _, _, rfl, ?_, ?_, HPX, g, hj', Nat.le_trans hsz hsp.size⟩, ?_⟩
          · omega
          · omega
          · first | (simp [intOf]; done) | (simp [intOf]; omega)
        · gi_wp2
          refine bodyPost_ret (results_none rfl _ _ _) rfl ?_
          exact ⟨⟨_, rfl⟩, .inr ⟨_, by rw [HPX.out]; exact HPR.out, hj'⟩⟩
end Go.Proofs.YtefkgkdocglgaaaDoor
