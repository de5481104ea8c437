/-
  The contract of Write.
-/
import Derived.Test.YtgjafjochgljnaaSnkSink
import Derived.Deep.RegionLawGrows
namespace Go.Proofs.Ytgjafjochgljnaa
open Go.RowKit Go.Lib

/-- What a Write does. -/
def WritePost (w : World) (base g : Nat) (v : Value) (room : Int) (zs ls : List Int) (e : Ending) (w' : World) : Prop :=
  ∃ v', e = .returned (.tuple #[.int .i64 (M.got room zs.length ls.length : Nat), .int .u16 (if M.got room zs.length ls.length < ls.length then 20 else 0)]) ∧
    Snk w' base g v' room (zs ++ ls.take (M.got room zs.length ls.length)) ∧ Fr (Snk.foot g v) w w' ∧ (v'.ownBlock = v.ownBlock ∨ v'.ownBlock = none ∨ ∃ k, v'.ownBlock = some k ∧ w.heap.size ≤ k)

/-- The sink behind the store. -/
theorem snk_stored {w w1 w2 : World} {base g : Nat} {v v' : Value} {room : Int} {zs news : List Int} (h : Snk w1 base g v room zs) (ho : OwnY w2 base v' (zs ++ news)) (hg : w1.grownBy w2 v.ownBlock) (hv : v'.ownBlock = v.ownBlock ∨ v'.ownBlock = some w1.heap.size)
    (hf : ((zs ++ news).length : Int) ≤ room) (hu : u8s (zs ++ news)) (hw : Below w.heap.size w w1) (hgw : g < w.heap.size) :
    Snk (w2.setCell ⟨g, 1, none⟩ v') base g v' room (zs ++ news) ∧ Fr (Snk.foot g v) w (w2.setCell ⟨g, 1, none⟩ v') ∧ (v'.ownBlock = v.ownBlock ∨ v'.ownBlock = none ∨ ∃ k, v'.ownBlock = some k ∧ w.heap.size ≤ k) := by
  have hlt := h.lt
  have hb : Blk w2 g 39 [.int .i64 room, v] := h.blk.grown hg h.apart
  have hap : v'.ownBlock ≠ some g := by
    rcases hv with e | e
    · rw [e]; exact h.apart
    · rw [e]; intro e'; injection e' with e'; omega
  refine ⟨⟨hb.set 1 v', ?_, hap, h.at_, hf, h.top, hu⟩, ((Fr.of_below hw).trans (Fr.of_grown hg (fun k hk => .inr hk))).trans (Fr.set w2 g 1 v' (.inl rfl)), ?_⟩
  · exact (Fr.set (F := fun k => k = g) w2 g 1 v' rfl).own ho (fun k hk e => hap (by rw [hk, e]))
  · rcases hv with e | e
    · exact .inl e
    · exact .inr (.inr ⟨_, e, hw.size⟩)

set_option maxRecDepth 100000 in
set_option maxHeartbeats 2000000 in
theorem write_any (base g : Nat) (v : Value) (room : Int) (zs : List Int) (A : Option Addr) (n c : Nat) (ls : List Int) (w : World) (B : Nat) (h : Snk w base g v room zs) (hbase : base ≤ w.heap.size) (hr : Rd w B A n ls) (hB : B ≤ w.heap.size) (hnc : n ≤ c) (hc : c ≤ maxLen) (hs : zs.length + n ≤ 1000000) :
    Calls Try.prog 9 #[.pointer (some ⟨g, 0, none⟩), .slice A n c] w (WritePost w base g v room zs ls) := by
  have hfit := h.fits
  have htop := h.top
  obtain ⟨A1, c1', rfl, _, _⟩ := own_room h.own
  obtain ⟨q, hq⟩ : ∃ q : Nat, room - zs.length = (q : Int) := ⟨(room - zs.length).toNat, by omega⟩
  have HL := hid (left_any base g _ room zs w h)
  rw [hq] at HL
  have HZ := hid hr.len
  have HS := hid (fun (W : World) (hb : Below w.heap.size w W) => h.later hb)
  have HU : Hid (u8s (zs ++ ls)) := hid (fun z hz => (List.mem_append.1 hz).elim (h.bytes z) (hr.bd z))
  have HRD := hid (fun (W : World) (hb : Below w.heap.size w W) (m : Nat) (hm : m ≤ n) => (hr.keep (w' := W) fun p hp => hb.cell (Nat.lt_of_lt_of_le hp hB)).front hm)
  have hgw := h.lt
  have HG := hid hgw
  by_cases hlt : (q : Int) < n
  · have hm : M.got room zs.length ls.length = q := by unfold M.got; rw [hq, HZ.out]; omega
    have HF := hid (fun W => front_any A n c q W (by omega) hnc hc)
    unfold WritePost
    rw [hm, HZ.out, if_pos (by omega)]
    have HFIT : Hid (((zs ++ ls.take q).length : Int) ≤ room) := hid (by rw [List.length_append, List.length_take, HZ.out]; omega)
    have HUU : Hid (u8s (zs ++ ls.take q)) := hid (fun z hz => HU.out z ((List.mem_append.1 hz).elim (fun h => List.mem_append.2 (.inl h)) (fun h => List.mem_append.2 (.inr (List.mem_of_mem_take h)))))
    clear h hr hm
    go_enter Try.func9, Try.ntmps9
    go_wp2_with fail
    (with_reducible refine HL.out.mono ?_)
    rintro e w1 ⟨rfl, b1⟩
    have hS1 := HS.out w1 b1
    have c1 := hS1.c1
    have B1 := hid b1
    clear b1 hS1
    go_wp2_with fail
    have HSZ : Hid (zs.length + q ≤ 1000000000) := hid (by omega)
    have HLE : Hid (q ≤ n) := hid (by omega)
    clear HL hq hfit htop hs hnc hc
    go_region_law (first
      | ((refine step_app_bytes rfl (.tmp 18) (.tmp 21) rfl base (.slice A1 zs.length c1') zs (by simp [Act.eval, Act.put]) (HS3.out.own) B A q q (ls.take q) (by simp [Act.eval, Act.put]) HR3.out HSZ.out (Nat.le_trans hbase B3.out.size) ?_); intro v' w4 ho4 hg4 hv4; obtain ⟨A4, c4, rfl, _, _⟩ := own_room ho4; have c1c := (HS3.out.blk.grown hg4 HS3.out.apart).cell (i := 1) rfl; have f1c := (HS3.out.blk.grown hg4 HS3.out.apart).frozen 1; have HP := hid (snk_stored HS3.out ho4 hg4 hv4 HFIT.out HUU.out B3.out HG.out); clear ho4 hg4 hv4; generalize (zs ++ ls.take q).length = N4 at HP ⊢)
      | (go_simp; (with_reducible refine (HF.out _).mono ?_); rintro e w3 ⟨rfl, b3⟩; have B3 := hid ((below_drew' B1.out).trans (b3.mono (below_drew' B1.out).size)); have HS3 := hid (HS.out w3 B3.out); have c1b := HS3.out.c1; have HR3 := hid (HRD.out w3 B3.out q HLE.out); clear b3))
    all_goals
      go_wp2
      go_ret2
      exact ⟨_, rfl, HP.out⟩
  · have hm : M.got room zs.length ls.length = n := by unfold M.got; rw [hq, HZ.out]; omega
    have HF := hid (fun W => front_any A n c n W (by omega) hnc hc)
    unfold WritePost
    rw [hm, HZ.out, if_neg (by omega)]
    have HFIT : Hid (((zs ++ ls.take n).length : Int) ≤ room) := hid (by rw [List.length_append, List.length_take, HZ.out]; omega)
    have HUU : Hid (u8s (zs ++ ls.take n)) := hid (fun z hz => HU.out z ((List.mem_append.1 hz).elim (fun h => List.mem_append.2 (.inl h)) (fun h => List.mem_append.2 (.inr (List.mem_of_mem_take h)))))
    clear h hr hm
    go_enter Try.func9, Try.ntmps9
    go_wp2_with fail
    (with_reducible refine HL.out.mono ?_)
    rintro e w1 ⟨rfl, b1⟩
    have hS1 := HS.out w1 b1
    have c1 := hS1.c1
    have B1 := hid b1
    clear b1 hS1
    go_wp2_with fail
    have HSZ : Hid (zs.length + n ≤ 1000000000) := hid (by omega)
    have HLE : Hid (n ≤ n) := hid (by omega)
    clear HL hq hfit htop hs hnc hc
    go_region_law (first
      | ((refine step_app_bytes rfl (.tmp 18) (.tmp 21) rfl base (.slice A1 zs.length c1') zs (by simp [Act.eval, Act.put]) (HS3.out.own) B A n n (ls.take n) (by simp [Act.eval, Act.put]) HR3.out HSZ.out (Nat.le_trans hbase B3.out.size) ?_); intro v' w4 ho4 hg4 hv4; obtain ⟨A4, c4, rfl, _, _⟩ := own_room ho4; have c1c := (HS3.out.blk.grown hg4 HS3.out.apart).cell (i := 1) rfl; have f1c := (HS3.out.blk.grown hg4 HS3.out.apart).frozen 1; have HP := hid (snk_stored HS3.out ho4 hg4 hv4 HFIT.out HUU.out B3.out HG.out); clear ho4 hg4 hv4; generalize (zs ++ ls.take n).length = N4 at HP ⊢)
      | (go_simp; (with_reducible refine (HF.out _).mono ?_); rintro e w3 ⟨rfl, b3⟩; have B3 := hid ((below_drew' B1.out).trans (b3.mono (below_drew' B1.out).size)); have HS3 := hid (HS.out w3 B3.out); have c1b := HS3.out.c1; have HR3 := hid (HRD.out w3 B3.out n HLE.out); clear b3))
    all_goals
      go_wp2
      go_ret2
      exact ⟨_, rfl, HP.out⟩
end Go.Proofs.Ytgjafjochgljnaa
