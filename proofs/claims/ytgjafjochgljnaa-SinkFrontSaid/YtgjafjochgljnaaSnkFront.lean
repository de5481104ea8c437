/-
  SinkFront's walk.
-/
import Derived.Test.YtgjafjochgljnaaSnkRows
namespace Go.Proofs.Ytgjafjochgljnaa
open Go.RowKit Go.Lib
attribute [local go_sem ↓] slice_from slice_to

theorem take_min_len (xs : List Int) (r : Nat) : xs.take r = xs.take (min r xs.length) := by rw [← List.take_eq_take_min]

/-- Behind some rows: all of them in a row of their own, and what the sink has. -/
structure FrAt (w : World) (g r : Nat) (a : Value) (xs : List Int) (wr : World) : Prop where
  own : OwnY wr w.heap.size a xs
  snk : ∃ v, Snk wr w.heap.size g v r (xs.take r) ∧ ∀ q, a.ownBlock = some q → v.ownBlock ≠ some q
  apart : a.ownBlock ≠ some g
  below : Below w.heap.size w wr
  bytes : u8s xs

theorem FrAt.next {w wr w2 w3 : World} {g r : Nat} {a a' v v' : Value} {xs l : List Int} (ha : OwnY wr w.heap.size a xs) (hs : Snk wr w.heap.size g v r (xs.take r)) (hav : ∀ q, a.ownBlock = some q → v.ownBlock ≠ some q) (hag : a.ownBlock ≠ some g)
    (hb : Below w.heap.size w wr) (hu : u8s (xs ++ l)) (ho : OwnY w2 w.heap.size a' (xs ++ l)) (hg : wr.grownBy w2 a.ownBlock) (ha' : a'.ownBlock = a.ownBlock ∨ a'.ownBlock = some wr.heap.size)
    (hS : Snk w3 w.heap.size g v' r ((xs ++ l).take r)) (hb3 : Below w.heap.size w2 w3) (hF : Fr (Snk.foot g v) w2 w3) (hv : v'.ownBlock = v.ownBlock ∨ v'.ownBlock = none ∨ ∃ k, v'.ownBlock = some k ∧ w2.heap.size ≤ k) : FrAt w g r a' (xs ++ l) w3 := by
  have hgl := hs.lt
  have hag' : a'.ownBlock ≠ some g := by
    rcases ha' with e | e
    · rw [e]; exact hag
    · rw [e]; intro e'; injection e' with e'; omega
  have hvl : ∀ q, v.ownBlock = some q → q < wr.heap.size := fun q hq => (hs.own.lt hq).2
  have hav' : ∀ q, a'.ownBlock = some q → v.ownBlock ≠ some q := by
    intro q hq hvq
    rcases ha' with e | e
    · exact hav q (by rw [← e]; exact hq) hvq
    · rw [e] at hq; injection hq with hq; have := hvl q hvq; omega
  have hb2 : Below w.heap.size w w2 := below_grown hb hg hb.size (fun q hq => (ha.lt hq).1)
  refine ⟨hF.own ho (fun q hq hf => ?_), ⟨v', hS, fun q hq hvq => ?_⟩, hag', hb2.trans hb3, hu⟩
  · rcases hf with e | hf
    · exact hag' (by rw [hq, e])
    · exact hav' q hq hf
  · rcases hv with e | e | ⟨k, e, hk⟩
    · exact hav' q hq (by rw [← e]; exact hvq)
    · rw [e] at hvq; cases hvq
    · rw [e] at hvq; injection hvq with hvq; have := (ho.lt hq).2; omega

theorem FrAt.sink2 {w wr w2 : World} {g r : Nat} {a v : Value} {xs : List Int} (ha : OwnY wr w.heap.size a xs) (hs : Snk wr w.heap.size g v r (xs.take r)) (hav : ∀ q, a.ownBlock = some q → v.ownBlock ≠ some q) (hag : a.ownBlock ≠ some g) (hg : wr.grownBy w2 a.ownBlock) : Snk w2 w.heap.size g v r (xs.take r) :=
  hs.kept (F := fun k => a.ownBlock = some k) (Fr.of_grown hg (fun k hk => hk)) (fun k hk he => by
    rcases hk with rfl | hk
    · exact hag he
    · exact hav k he hk)

set_option maxRecDepth 100000 in
set_option maxHeartbeats 8000000 in
theorem sinkFront_nat (A : Option Addr) (n c : Nat) (ls : List (List Int)) (r : Nat) (w : World) (hr : RdR w w.heap.size A n ls) (hnc : n ≤ c) (hc : c ≤ maxLen) (hr5 : r ≤ 255) :
    Calls Try.prog 5 #[.slice A n c, .int .u8 r] w fun e w' => e = .returned (.bool true) ∧ Below w.heap.size w w' := by
  have HN := hid (new_any r w (by omega))
  rw [show max (r : Int) 0 = r from by omega] at HN
  have hcm : n ≤ maxLen := Nat.le_trans hnc hc
  unfold maxLen at hcm
  have HAT := hid (fun (W : World) (hb : Below w.heap.size w W) (k : Nat) (hk : k < n) => (hr.keep (w' := W) fun p hp => hb.cell hp).2 k hk)
  have HLN := hid hr.len
  clear hr hnc hc
  go_enter Try.func5, Try.ntmps5
  go_wp2_with fail
  (with_reducible refine HN.out.mono ?_)
  rintro e w1 ⟨g, rfl, hS1, b1⟩
  have HS1 := hid hS1
  have B1 := hid b1
  clear hS1 b1 HN
  go_wp2_with fail
  go_loopw [6, 7, 8] (fun a f i wr => ∃ (k : Nat) (b : Bool), k ≤ n ∧ k ≤ 40 ∧ i = .int .i64 k ∧ f = .bool b ∧ b = decide (r < (ls.take k).flatten.length) ∧ (ls.take k).flatten.length ≤ 100 * k ∧ FrAt w g r a (ls.take k).flatten wr) (fun _ _ i _ => n - (intOf i).toNat)
  case atStart =>
    exact ⟨0, false, Nat.zero_le _, by omega, rfl, rfl, by simp, by simp, ⟨OwnY.nil _ _, ⟨_, by simpa using HS1.out, fun q hq => by cases hq⟩, by simp [Value.ownBlock], B1.out, by intro z hz; simp at hz⟩⟩
  case round =>
    obtain ⟨k, fb, hk, hk4, rfl, rfl, hfb, hxl, hat⟩ := hrel
    by_cases hlt : k < n ∧ k < 40
    · obtain ⟨hlt, hlt4⟩ := hlt
      have e4 : decide ((k : Int) < 40) = true := by rw [decide_eq_true_eq]; omega
      obtain ⟨xs, hxs⟩ : ∃ xs, (ls.take k).flatten = xs := ⟨_, rfl⟩
      rw [hxs] at hfb hxl hat
      obtain ⟨ha, ⟨v, hs, hav⟩, hag, hb, hu⟩ := hat
      obtain ⟨b, off, A', c', l, rfl, hbB, hl, c0, hrl, hlc, hcc⟩ := HAT.out wr hb k hlt
      obtain ⟨Aa, ca, rfl, hca, hcam⟩ := own_room ha
      by_cases h1 : 100 < l.length
      · have e1 : decide ((100 : Int) < l.length) = true := by rw [decide_eq_true_eq]; omega
        have HB := hid hb
        unfold maxLen at hcc
        clear ha hs hav hag hb hu hrl hfb
        go_wp2_with fail
        (with_reducible refine (known_any _).mono ?_)
        rintro e w5 ⟨rfl, b5⟩
        go_wp2
        go_ret
        exact ⟨rfl, HB.out.trans (b5.mono HB.out.size)⟩
      have e1 : decide ((100 : Int) < l.length) = false := by rw [decide_eq_false_iff_not]; omega
      have hnx := flat_next hl
      rw [hxs] at hnx
      have HNX := hid hnx
      have hxt : (xs.take r).length = min r xs.length := List.length_take
      obtain ⟨m, hm⟩ : ∃ m, M.got r (xs.take r).length l.length = m := ⟨_, rfl⟩
      have hmv : m = min l.length (r - min xs.length r) := by rw [← hm, M.got_nat, hxt, Nat.min_comm r]
      have hy : xs.take r ++ l.take m = (xs ++ l).take r := by rw [hmv]; exact take_next xs l r
      have hu2 : u8s (xs ++ l) := fun z hz => (List.mem_append.1 hz).elim (hu z) (hrl.bd z)
      have HS2 := hid (fun (w2 : World) (hg : wr.grownBy w2 (Value.slice Aa xs.length ca).ownBlock) => FrAt.sink2 ha hs hav hag hg)
      have HB2 := hid (fun (w2 : World) (hg : wr.grownBy w2 (Value.slice Aa xs.length ca).ownBlock) => below_grown hb hg hb.size (fun q hq => (ha.lt hq).1))
      have HNEXT := hid (fun (w2 w3 : World) (a' v' : Value) (ho : OwnY w2 w.heap.size a' (xs ++ l)) (hg : wr.grownBy w2 (Value.slice Aa xs.length ca).ownBlock) (ha' : a'.ownBlock = (Value.slice Aa xs.length ca).ownBlock ∨ a'.ownBlock = some wr.heap.size)
        (hS : Snk w3 w.heap.size g v' r ((xs ++ l).take r)) (hb3 : Below w.heap.size w2 w3) (hF : Fr (Snk.foot g v) w2 w3) (hv : v'.ownBlock = v.ownBlock ∨ v'.ownBlock = none ∨ ∃ k, v'.ownBlock = some k ∧ w2.heap.size ≤ k) => FrAt.next ha hs hav hag hb hu2 ho hg ha' hS hb3 hF hv)
      have HRL := hid (fun (W : World) (hb2 : Below w.heap.size wr W) => hrl.keep (w' := W) fun p hp => hb2.cell hp)
      have HC := hid (fun (W : World) (hb2 : Below w.heap.size wr W) => (hb2.cell (p := ⟨b, off + k, none⟩) hbB).trans c0)
      have HWB := hid hb.size
      have HCC := hid hcc
      have HLC := hid hlc
      have HLX : Hid ((xs.take r).length + l.length ≤ 1000000) := hid (by omega)
      have HOWN := hid ha
      have HBW := hid hb
      have HBG := hid (fun (w2 : World) (hg : wr.grownBy w2 (Value.slice Aa xs.length ca).ownBlock) => (below_grown (Below.refl w.heap.size wr) hg hb.size (fun q hq => (ha.lt hq).1)))
      have HM := hid hm
      have HY := hid hy
      unfold maxLen at hcc
      clear hs hav hag hb hu hrl hy hm hu2 hnx hl ha
      have hfv : (fb = true ∧ r < xs.length) ∨ (fb = false ∧ xs.length ≤ r) := by
        by_cases h : r < xs.length
        · exact .inl ⟨by rw [hfb]; simpa using h, h⟩
        · exact .inr ⟨by rw [hfb]; simpa using h, by omega⟩
      clear hfb
      have hml : m ≤ l.length := by omega
      have hmc : ∃ cd : Int, (if m < l.length then (20 : Int) else 0) = cd ∧ ((m < l.length ∧ cd = 20) ∨ (m = l.length ∧ cd = 0)) := by
        by_cases h : m < l.length
        · exact ⟨20, if_pos h, .inl ⟨h, rfl⟩⟩
        · exact ⟨0, if_neg h, .inr ⟨by omega, rfl⟩⟩
      obtain ⟨cd, hcd, hcv⟩ := hmc
      have HCD := hid hcd
      clear hcd
      have HFN : Hid (∀ b' : Bool, (b' = true ↔ (r < xs.length ∨ m < l.length)) → b' = decide (r < (xs ++ l).length)) := hid (fun b' h => by
        rw [List.length_append]
        by_cases h2 : r < xs.length + l.length
        · rw [decide_eq_true h2]; exact h.2 (by omega)
        · rw [decide_eq_false h2]
          cases b' with
          | true => have := h.1 rfl; omega
          | false => rfl)
      clear hmv hxt
      rcases hfv with ⟨rfl, hfx⟩ | ⟨rfl, hfx⟩
      all_goals
        rcases hcv with ⟨hmx, rfl⟩ | ⟨hmx, rfl⟩
        case' inl => have e5 : decide ((m : Int) < l.length) = true := by rw [decide_eq_true_eq]; omega
        case' inr => have e5 : decide ((m : Int) < l.length) = false := by rw [decide_eq_false_iff_not]; omega
        all_goals
          have e6 : decide ((l.length : Int) < m) = false := by rw [decide_eq_false_iff_not]; omega
          go_wp2_with (refine wpList_app_bytes rfl (.tmp 33) (.tmp 37) rfl w.heap.size (.slice Aa xs.length ca) xs (by simp [Act.eval]) HOWN.out w.heap.size A' l.length c' l (by simp [Act.eval]) (HRL.out _ (Below.refl _ _)) (by omega) HWB.out ?_; intro a' w2 ho hg ha'; obtain ⟨A2, c2, rfl, _, _⟩ := own_room ho; have c02 := HC.out w2 (HBG.out w2 hg); have HO2 := hid ho; have HG2 := hid hg; have HA2 := hid ha'; clear ho hg ha')
          have HWR := hid (write_f w.heap.size g v r (xs.take r) A' l.length c' l w2 w.heap.size m ((xs ++ l).take r) _ (HS2.out w2 HG2.out) (HB2.out w2 HG2.out).size (HRL.out w2 (HBG.out w2 HG2.out)) (HB2.out w2 HG2.out).size HLC.out HCC.out HLX.out HM.out HY.out HCD.out)
          (with_reducible refine HWR.out.mono ?_)
          rintro e w3 ⟨v', rfl, hS3, b3, f3, hv3⟩
          have c03 := HC.out w3 ((HBG.out w2 HG2.out).trans b3)
          have HNX3 := hid (HNEXT.out w2 w3 _ v' HO2.out HG2.out HA2.out hS3 b3 f3 hv3)
          clear hS3 b3 f3 hv3 HWR c02 c0
          go_wp2
          go_roundw
          case rel =>
            have hx3 := HNX3.out
            rw [List.length_append] at hx3
            refine ⟨k + 1, _, by omega, by omega, by go_num, rfl, ?_, ?_, ?_⟩
            · rw [HNX.out]
              exact HFN.out _ (by simp; omega)
            · rw [HNX.out, List.length_append]
              omega
            · rw [HNX.out]
              exact hx3
          case measure => simp [intOf]; omega
    · obtain ⟨xs, hxs⟩ : ∃ xs, (ls.take k).flatten = xs := ⟨_, rfl⟩
      rw [hxs] at hfb hxl hat
      have hat0 := hat
      obtain ⟨ha, ⟨v, hs, hav⟩, hag, hb, hu⟩ := hat
      obtain ⟨Aa, ca, rfl, hra, hca, hcam⟩ := ha.rd hu
      obtain ⟨ys, hys⟩ : ∃ ys, xs.take r = ys := ⟨_, rfl⟩
      have hyl : ys.length = min r xs.length := by rw [← hys]; exact List.length_take
      rw [hys] at hs
      have HB := hid hb
      have HBS := hid (fun (W : World) (hW : Below wr.heap.size wr W) => bytes_any w.heap.size g v r ys W (hs.later hW) (by omega))
      have HLS := hid (fun (W : World) (hW : Below wr.heap.size wr W) => left_any w.heap.size g v r ys W (hs.later hW))
      have e7 : IntKind.i64.wrap ((r : Int) - ys.length) = r - ys.length := IntWalk.i64_in _ (by omega)
      have e9 : IntKind.i64.wrap (r : Int) = r := IntWalk.i64_in _ (by omega)
      have HRA := hid (fun (W : World) (hW : Below wr.heap.size wr W) => hra.keep (w' := W) fun p hp => hW.cell hp)
      have HYS := hid hys
      clear hat0 hs hav hag hb hu ha hra hys hxs
      unfold maxLen at hcam
      obtain ⟨mv, hmv⟩ : ∃ mv : Nat, mv = min r xs.length := ⟨_, rfl⟩
      have hX1 : (if r < xs.length then (r : Int) else xs.length) = mv := by
        by_cases h : r < xs.length
        · rw [if_pos h]; omega
        · rw [if_neg h]; omega
      have hto : ((mv : Nat) : Int).toNat = mv := by omega
      have HFB := hid hfb
      have hca1 : (mv ≤ ca) = True := by rw [eq_iff_iff]; exact ⟨fun _ => trivial, fun _ => by omega⟩
      have hmx : mv ≤ xs.length := by omega
      have hty : xs.take mv = ys := by rw [← HYS.out, hmv]; exact (take_min_len xs r).symm
      have CVA := hid (fun (W : World) (hW : Below wr.heap.size wr W) => run_str ((HRA.out W hW).front hmx) ca)
      rw [hty] at CVA
      rcases (by omega : ¬ k < n ∨ (k < n ∧ k = 40)) with h | ⟨h, rfl⟩
      · clear hlt hfb hyl hty hmx hmv hxl hca
        go_wp2_with fail
        refine wp_region_held_drew (S := fun W => Below wr.heap.size wr W) (by kernel_rfl) (below_drew' (Below.refl _ _)) (fun hS => ?_)
        refine loneH (i := 0) 77 rfl rfl (by kernel_rfl) (by rfl) (fun K hK => ?_)
        go_simp
        (with_reducible refine (known_any _).mono ?_)
        rintro e w7 ⟨rfl, b7⟩
        have B7 := hS.trans (b7.mono hS.size)
        clear b7 hS
        refine hK.out _ _ B7 (fun hS => ?_)
        clear hK K
        try simp only [Act.put, List.setIfInBounds_toArray, List.set_cons_zero, List.set_cons_succ]
        refine takeH (i := 1) (v := ?_) 78 rfl rfl (by kernel_rfl) (by kernel_rfl) (by kernel_rfl) (fun _ _ _ h => h) (by rfl) ?hy1A1 hS ?rest1A1
        case hy1A1 => (intro W hW; clear hW; go_simp; first | done | with_reducible rfl)
        try simp only [Act.put, List.setIfInBounds_toArray, List.set_cons_zero, List.set_cons_succ]
        refine takeH (i := 2) (v := ?_) 79 rfl rfl (by kernel_rfl) (by kernel_rfl) (by kernel_rfl) (fun _ _ _ h => h) (by rfl) ?hy2A1 hS ?rest2A1
        case hy2A1 => (intro W hW; clear hW; go_simp; first | done | with_reducible rfl)
        try simp only [Act.put, List.setIfInBounds_toArray, List.set_cons_zero, List.set_cons_succ]
        refine takeH (i := 5) (v := ?_) 82 rfl rfl (by kernel_rfl) (by kernel_rfl) (by kernel_rfl) (fun _ _ _ h => h) (by rfl) ?hy5A1 hS ?rest5A1
        case hy5A1 => (intro W hW; clear hW; go_simp; first | done | with_reducible rfl)
        try simp only [Act.put, List.setIfInBounds_toArray, List.set_cons_zero, List.set_cons_succ]
        refine takeH (i := 6) (v := ?_) 83 rfl rfl (by kernel_rfl) (by kernel_rfl) (by kernel_rfl) (fun _ _ _ h => h) (by rfl) ?hy6A1 hS ?rest6A1
        case hy6A1 => (intro W hW; clear hW; go_simp; first | done | with_reducible rfl)
        try simp only [Act.put, List.setIfInBounds_toArray, List.set_cons_zero, List.set_cons_succ]
        refine takeH (i := 7) (v := ?_) 84 rfl rfl (by kernel_rfl) (by kernel_rfl) (by kernel_rfl) (fun _ _ _ h => h) (by rfl) ?hy7A1 hS ?rest7A1
        case hy7A1 => (intro W hW; clear hW; go_simp; first | done | with_reducible rfl)
        try simp only [Act.put, List.setIfInBounds_toArray, List.set_cons_zero, List.set_cons_succ]
        refine takeH (i := 8) (v := ?_) 85 rfl rfl (by kernel_rfl) (by kernel_rfl) (by kernel_rfl) (fun _ _ _ h => h) (by rfl) ?hy8A1 hS ?rest8A1
        case hy8A1 => (intro W hW; clear hW; go_simp; first | done | with_reducible rfl)
        try simp only [Act.put, List.setIfInBounds_toArray, List.set_cons_zero, List.set_cons_succ]
        refine takeH (i := 9) (v := ?_) 86 rfl rfl (by kernel_rfl) (by kernel_rfl) (by kernel_rfl) (fun _ _ _ h => h) (by rfl) ?hy9A1 hS ?rest9A1
        case hy9A1 => (intro W hW; clear hW; go_simp; first | done | with_reducible rfl)
        try simp only [Act.put, List.setIfInBounds_toArray, List.set_cons_zero, List.set_cons_succ]
        refine takeH (i := 10) (v := ?_) 87 rfl rfl (by kernel_rfl) (by kernel_rfl) (by kernel_rfl) (fun _ _ _ h => h) (by rfl) ?hy10A1 hS ?rest10A1
        case hy10A1 => (intro W hW; clear hW; go_simp; first | done | with_reducible rfl)
        try simp only [Act.put, List.setIfInBounds_toArray, List.set_cons_zero, List.set_cons_succ]
        refine takeH (i := 11) (v := ?_) 88 rfl rfl (by kernel_rfl) (by kernel_rfl) (by kernel_rfl) (fun _ _ _ h => h) (by rfl) ?hy11A1 hS ?rest11A1
        case hy11A1 => (intro W hW; clear hW; go_simp; first | done | with_reducible rfl)
        try simp only [Act.put, List.setIfInBounds_toArray, List.set_cons_zero, List.set_cons_succ]
        refine takeH (i := 12) (v := ?_) 89 rfl rfl (by kernel_rfl) (by kernel_rfl) (by kernel_rfl) (fun _ _ _ h => h) (by rfl) ?hy12A1 hS ?rest12A1
        case hy12A1 => (intro W hW; have f0 := CVA.out W hW; clear hW; go_simp; first | done | with_reducible rfl)
        try simp only [Act.put, List.setIfInBounds_toArray, List.set_cons_zero, List.set_cons_succ]
        refine loneH (i := 3) 80 rfl rfl (by kernel_rfl) (by rfl) (fun K hK => ?_)
        go_simp
        (with_reducible refine (HBS.out _ hS).mono ?_)
        rintro e w8 ⟨A8, c8, rfl, hr8, b8⟩
        have B8 := hS.trans (b8.mono hS.size)
        have HR8 := hid hr8
        have CV8 := hid (fun (W : World) (hW : Below w8.heap.size w8 W) => run_str (HR8.out.keep (w' := W) fun p hp => hW.cell hp) c8)
        clear b8 hS hr8
        refine hK.out _ _ B8 (fun hS => ?_)
        clear hK K
        try simp only [Act.put, List.setIfInBounds_toArray, List.set_cons_zero, List.set_cons_succ]
        refine wpAnyH_narrow (S' := fun W => Below w8.heap.size w8 W) (fun W h => B8.trans (h.mono B8.size)) _ _ _ _ ?_
        clear hS
        have hS := Below.refl w8.heap.size w8
        refine takeH (i := 4) (v := ?_) 81 rfl rfl (by kernel_rfl) (by kernel_rfl) (by kernel_rfl) (fun _ _ _ h => h) (by rfl) ?hy4A1 hS ?rest4A1
        case hy4A1 => (intro W hW; have f0 := CV8.out W hW; clear hW; go_simp; first | done | with_reducible rfl)
        try simp only [Act.put, List.setIfInBounds_toArray, List.set_cons_zero, List.set_cons_succ]
        refine takeH (i := 13) (v := ?_) 90 rfl rfl (by kernel_rfl) (by kernel_rfl) (by kernel_rfl) (fun _ _ _ h => h) (by rfl) ?hy13A1 hS ?rest13A1
        case hy13A1 => (intro W hW; clear hW; go_simp; first | done | with_reducible rfl)
        try simp only [Act.put, List.setIfInBounds_toArray, List.set_cons_zero, List.set_cons_succ]
        refine takeH (i := 14) (v := ?_) 91 rfl rfl (by kernel_rfl) (by kernel_rfl) (by kernel_rfl) (fun _ _ _ h => h) (by rfl) ?hy14A1 hS ?rest14A1
        case hy14A1 => (intro W hW; clear hW; go_simp; first | done | with_reducible rfl)
        try simp only [Act.put, List.setIfInBounds_toArray, List.set_cons_zero, List.set_cons_succ]
        refine takeH (i := 15) (v := ?_) 92 rfl rfl (by kernel_rfl) (by kernel_rfl) (by kernel_rfl) (fun _ _ _ h => h) (by rfl) ?hy15A1 hS ?rest15A1
        case hy15A1 => (intro W hW; clear hW; go_simp; first | done | with_reducible rfl)
        try simp only [Act.put, List.setIfInBounds_toArray, List.set_cons_zero, List.set_cons_succ]
        refine takeH (i := 16) (v := ?_) 93 rfl rfl (by kernel_rfl) (by kernel_rfl) (by kernel_rfl) (fun _ _ _ h => h) (by rfl) ?hy16A1 hS ?rest16A1
        case hy16A1 => (intro W hW; clear hW; go_simp; first | done | with_reducible rfl)
        try simp only [Act.put, List.setIfInBounds_toArray, List.set_cons_zero, List.set_cons_succ]
        refine takeH (i := 18) (v := ?_) 95 rfl rfl (by kernel_rfl) (by kernel_rfl) (by kernel_rfl) (fun _ _ _ h => h) (by rfl) ?hy18A1 hS ?rest18A1
        case hy18A1 => (intro W hW; clear hW; go_simp; first | done | with_reducible rfl)
        try simp only [Act.put, List.setIfInBounds_toArray, List.set_cons_zero, List.set_cons_succ]
        refine takeH (i := 19) (v := ?_) 96 rfl rfl (by kernel_rfl) (by kernel_rfl) (by kernel_rfl) (fun _ _ _ h => h) (by rfl) ?hy19A1 hS ?rest19A1
        case hy19A1 => (intro W hW; clear hW; go_simp; first | done | with_reducible rfl)
        try simp only [Act.put, List.setIfInBounds_toArray, List.set_cons_zero, List.set_cons_succ]
        refine takeH (i := 20) (v := ?_) 97 rfl rfl (by kernel_rfl) (by kernel_rfl) (by kernel_rfl) (fun _ _ _ h => h) (by rfl) ?hy20A1 hS ?rest20A1
        case hy20A1 => (intro W hW; clear hW; go_simp; first | done | with_reducible rfl)
        try simp only [Act.put, List.setIfInBounds_toArray, List.set_cons_zero, List.set_cons_succ]
        refine loneH (i := 17) 94 rfl rfl (by kernel_rfl) (by rfl) (fun K hK => ?_)
        go_simp
        (with_reducible refine (HLS.out _ (B8.trans (hS.mono B8.size))).mono ?_)
        rintro e w9 ⟨rfl, b9⟩
        have B9 := hS.trans (b9.mono hS.size)
        clear b9 hS
        refine hK.out _ _ B9 (fun hS => ?_)
        clear hK K
        try simp only [Act.put, List.setIfInBounds_toArray, List.set_cons_zero, List.set_cons_succ]
        refine loneH (i := 21) 98 rfl rfl (by kernel_rfl) (by rfl) (fun K hK => ?_)
        go_simp
        (with_reducible refine (HBS.out _ (B8.trans (hS.mono B8.size))).mono ?_)
        rintro e w10 ⟨A10, c10, rfl, hr10, b10⟩
        have B10 := hS.trans (b10.mono hS.size)
        clear b10 hS hr10
        refine hK.out _ _ B10 (fun hS => ?_)
        clear hK K
        try simp only [Act.put, List.setIfInBounds_toArray, List.set_cons_zero, List.set_cons_succ]
        refine takeH (i := 22) (v := ?_) 99 rfl rfl (by kernel_rfl) (by kernel_rfl) (by kernel_rfl) (fun _ _ _ h => h) (by rfl) ?hy22A1 hS ?rest22A1
        case hy22A1 => (intro W hW; clear hW; go_simp; first | done | with_reducible rfl)
        try simp only [Act.put, List.setIfInBounds_toArray, List.set_cons_zero, List.set_cons_succ]
        refine takeH (i := 23) (v := ?_) 100 rfl rfl (by kernel_rfl) (by kernel_rfl) (by kernel_rfl) (fun _ _ _ h => h) (by rfl) ?hy23A1 hS ?rest23A1
        case hy23A1 => (intro W hW; clear hW; go_simp; first | done | with_reducible rfl)
        try simp only [Act.put, List.setIfInBounds_toArray, List.set_cons_zero, List.set_cons_succ]
        refine takeH (i := 24) (v := ?_) 101 rfl rfl (by kernel_rfl) (by kernel_rfl) (by kernel_rfl) (fun _ _ _ h => h) (by rfl) ?hy24A1 hS ?rest24A1
        case hy24A1 => (intro W hW; clear hW; go_simp; first | done | with_reducible rfl)
        try simp only [Act.put, List.setIfInBounds_toArray, List.set_cons_zero, List.set_cons_succ]
        refine takeH (i := 25) (v := ?_) 102 rfl rfl (by kernel_rfl) (by kernel_rfl) (by kernel_rfl) (fun _ _ _ h => h) (by rfl) ?hy25A1 hS ?rest25A1
        case hy25A1 => (intro W hW; clear hW; go_simp; first | done | with_reducible rfl)
        try simp only [Act.put, List.setIfInBounds_toArray, List.set_cons_zero, List.set_cons_succ]
        refine takeH (i := 26) (v := ?_) 103 rfl rfl (by kernel_rfl) (by kernel_rfl) (by kernel_rfl) (fun _ _ _ h => h) (by rfl) ?hy26A1 hS ?rest26A1
        case hy26A1 => (intro W hW; clear hW; go_simp; first | done | with_reducible rfl)
        try simp only [Act.put, List.setIfInBounds_toArray, List.set_cons_zero, List.set_cons_succ]
        refine takeH (i := 27) (v := ?_) 104 rfl rfl (by kernel_rfl) (by kernel_rfl) (by kernel_rfl) (fun _ _ _ h => h) (by rfl) ?hy27A1 hS ?rest27A1
        case hy27A1 => (intro W hW; clear hW; go_simp; first | done | with_reducible rfl)
        try simp only [Act.put, List.setIfInBounds_toArray, List.set_cons_zero, List.set_cons_succ]
        refine takeH (i := 28) (v := ?_) 105 rfl rfl (by kernel_rfl) (by kernel_rfl) (by kernel_rfl) (fun _ _ _ h => h) (by rfl) ?hy28A1 hS ?rest28A1
        case hy28A1 => (intro W hW; clear hW; go_simp; first | done | with_reducible rfl)
        try simp only [Act.put, List.setIfInBounds_toArray, List.set_cons_zero, List.set_cons_succ]
        refine takeH (i := 29) (v := ?_) 106 rfl rfl (by kernel_rfl) (by kernel_rfl) (by kernel_rfl) (fun _ _ _ h => h) (by rfl) ?hy29A1 hS ?rest29A1
        case hy29A1 => (intro W hW; clear hW; go_simp; first | done | with_reducible rfl)
        try simp only [Act.put, List.setIfInBounds_toArray, List.set_cons_zero, List.set_cons_succ]
        refine takeH (i := 30) (v := ?_) 107 rfl rfl (by kernel_rfl) (by kernel_rfl) (by kernel_rfl) (fun _ _ _ h => h) (by rfl) ?hy30A1 hS ?rest30A1
        case hy30A1 => (intro W hW; clear hW; go_simp; first | done | with_reducible rfl)
        try simp only [Act.put, List.setIfInBounds_toArray, List.set_cons_zero, List.set_cons_succ]
        refine takeH (i := 31) (v := ?_) 108 rfl rfl (by kernel_rfl) (by kernel_rfl) (by kernel_rfl) (fun _ _ _ h => h) (by rfl) ?hy31A1 hS ?rest31A1
        case hy31A1 => (intro W hW; clear hW; go_simp; first | done | with_reducible rfl)
        try simp only [Act.put, List.setIfInBounds_toArray, List.set_cons_zero, List.set_cons_succ]
        refine takeH (i := 32) (v := ?_) 109 rfl rfl (by kernel_rfl) (by kernel_rfl) (by kernel_rfl) (fun _ _ _ h => h) (by rfl) ?hy32A1 hS ?rest32A1
        case hy32A1 => (intro W hW; clear hW; go_simp; first | done | with_reducible rfl)
        try simp only [Act.put, List.setIfInBounds_toArray, List.set_cons_zero, List.set_cons_succ]
        refine takeH (i := 33) (v := ?_) 110 rfl rfl (by kernel_rfl) (by kernel_rfl) (by kernel_rfl) (fun _ _ _ h => h) (by rfl) ?hy33A1 hS ?rest33A1
        case hy33A1 => (intro W hW; clear hW; go_simp; first | done | with_reducible rfl)
        try simp only [Act.put, List.setIfInBounds_toArray, List.set_cons_zero, List.set_cons_succ]
        refine takeH (i := 34) (v := ?_) 111 rfl rfl (by kernel_rfl) (by kernel_rfl) (by kernel_rfl) (fun _ _ _ h => h) (by rfl) ?hy34A1 hS ?rest34A1
        case hy34A1 => (intro W hW; clear hW; go_simp; first | done | with_reducible rfl)
        try simp only [Act.put, List.setIfInBounds_toArray, List.set_cons_zero, List.set_cons_succ]
        refine takeH (i := 35) (v := ?_) 4 rfl rfl (by kernel_rfl) (by kernel_rfl) (by kernel_rfl) (fun _ _ _ h => h) (by rfl) ?hy35A1 hS ?rest35A1
        case hy35A1 => (intro W hW; clear hW; go_simp; first | done | with_reducible rfl)
        try simp only [Act.put, List.setIfInBounds_toArray, List.set_cons_zero, List.set_cons_succ]
        refine wpAnyH_done (by kernel_rfl) ?_ _
        go_wp2
        go_ret
        exact ⟨ret_bool (by show (fb == decide (r < xs.length)) = true; rw [← HFB.out]; simp), HB.out.trans ((B8.trans (B10.mono B8.size)).mono HB.out.size)⟩
      · clear hlt hfb hyl hty hmx hmv hxl hca
        go_wp2_with fail
        refine wp_region_held_drew (S := fun W => Below wr.heap.size wr W) (by kernel_rfl) (below_drew' (Below.refl _ _)) (fun hS => ?_)
        refine loneH (i := 0) 77 rfl rfl (by kernel_rfl) (by rfl) (fun K hK => ?_)
        go_simp
        (with_reducible refine (known_any _).mono ?_)
        rintro e w7 ⟨rfl, b7⟩
        have B7 := hS.trans (b7.mono hS.size)
        clear b7 hS
        refine hK.out _ _ B7 (fun hS => ?_)
        clear hK K
        try simp only [Act.put, List.setIfInBounds_toArray, List.set_cons_zero, List.set_cons_succ]
        refine takeH (i := 1) (v := ?_) 78 rfl rfl (by kernel_rfl) (by kernel_rfl) (by kernel_rfl) (fun _ _ _ h => h) (by rfl) ?hy1A2 hS ?rest1A2
        case hy1A2 => (intro W hW; clear hW; go_simp; first | done | with_reducible rfl)
        try simp only [Act.put, List.setIfInBounds_toArray, List.set_cons_zero, List.set_cons_succ]
        refine takeH (i := 2) (v := ?_) 79 rfl rfl (by kernel_rfl) (by kernel_rfl) (by kernel_rfl) (fun _ _ _ h => h) (by rfl) ?hy2A2 hS ?rest2A2
        case hy2A2 => (intro W hW; clear hW; go_simp; first | done | with_reducible rfl)
        try simp only [Act.put, List.setIfInBounds_toArray, List.set_cons_zero, List.set_cons_succ]
        refine takeH (i := 5) (v := ?_) 82 rfl rfl (by kernel_rfl) (by kernel_rfl) (by kernel_rfl) (fun _ _ _ h => h) (by rfl) ?hy5A2 hS ?rest5A2
        case hy5A2 => (intro W hW; clear hW; go_simp; first | done | with_reducible rfl)
        try simp only [Act.put, List.setIfInBounds_toArray, List.set_cons_zero, List.set_cons_succ]
        refine takeH (i := 6) (v := ?_) 83 rfl rfl (by kernel_rfl) (by kernel_rfl) (by kernel_rfl) (fun _ _ _ h => h) (by rfl) ?hy6A2 hS ?rest6A2
        case hy6A2 => (intro W hW; clear hW; go_simp; first | done | with_reducible rfl)
        try simp only [Act.put, List.setIfInBounds_toArray, List.set_cons_zero, List.set_cons_succ]
        refine takeH (i := 7) (v := ?_) 84 rfl rfl (by kernel_rfl) (by kernel_rfl) (by kernel_rfl) (fun _ _ _ h => h) (by rfl) ?hy7A2 hS ?rest7A2
        case hy7A2 => (intro W hW; clear hW; go_simp; first | done | with_reducible rfl)
        try simp only [Act.put, List.setIfInBounds_toArray, List.set_cons_zero, List.set_cons_succ]
        refine takeH (i := 8) (v := ?_) 85 rfl rfl (by kernel_rfl) (by kernel_rfl) (by kernel_rfl) (fun _ _ _ h => h) (by rfl) ?hy8A2 hS ?rest8A2
        case hy8A2 => (intro W hW; clear hW; go_simp; first | done | with_reducible rfl)
        try simp only [Act.put, List.setIfInBounds_toArray, List.set_cons_zero, List.set_cons_succ]
        refine takeH (i := 9) (v := ?_) 86 rfl rfl (by kernel_rfl) (by kernel_rfl) (by kernel_rfl) (fun _ _ _ h => h) (by rfl) ?hy9A2 hS ?rest9A2
        case hy9A2 => (intro W hW; clear hW; go_simp; first | done | with_reducible rfl)
        try simp only [Act.put, List.setIfInBounds_toArray, List.set_cons_zero, List.set_cons_succ]
        refine takeH (i := 10) (v := ?_) 87 rfl rfl (by kernel_rfl) (by kernel_rfl) (by kernel_rfl) (fun _ _ _ h => h) (by rfl) ?hy10A2 hS ?rest10A2
        case hy10A2 => (intro W hW; clear hW; go_simp; first | done | with_reducible rfl)
        try simp only [Act.put, List.setIfInBounds_toArray, List.set_cons_zero, List.set_cons_succ]
        refine takeH (i := 11) (v := ?_) 88 rfl rfl (by kernel_rfl) (by kernel_rfl) (by kernel_rfl) (fun _ _ _ h => h) (by rfl) ?hy11A2 hS ?rest11A2
        case hy11A2 => (intro W hW; clear hW; go_simp; first | done | with_reducible rfl)
        try simp only [Act.put, List.setIfInBounds_toArray, List.set_cons_zero, List.set_cons_succ]
        refine takeH (i := 12) (v := ?_) 89 rfl rfl (by kernel_rfl) (by kernel_rfl) (by kernel_rfl) (fun _ _ _ h => h) (by rfl) ?hy12A2 hS ?rest12A2
        case hy12A2 => (intro W hW; have f0 := CVA.out W hW; clear hW; go_simp; first | done | with_reducible rfl)
        try simp only [Act.put, List.setIfInBounds_toArray, List.set_cons_zero, List.set_cons_succ]
        refine loneH (i := 3) 80 rfl rfl (by kernel_rfl) (by rfl) (fun K hK => ?_)
        go_simp
        (with_reducible refine (HBS.out _ hS).mono ?_)
        rintro e w8 ⟨A8, c8, rfl, hr8, b8⟩
        have B8 := hS.trans (b8.mono hS.size)
        have HR8 := hid hr8
        have CV8 := hid (fun (W : World) (hW : Below w8.heap.size w8 W) => run_str (HR8.out.keep (w' := W) fun p hp => hW.cell hp) c8)
        clear b8 hS hr8
        refine hK.out _ _ B8 (fun hS => ?_)
        clear hK K
        try simp only [Act.put, List.setIfInBounds_toArray, List.set_cons_zero, List.set_cons_succ]
        refine wpAnyH_narrow (S' := fun W => Below w8.heap.size w8 W) (fun W h => B8.trans (h.mono B8.size)) _ _ _ _ ?_
        clear hS
        have hS := Below.refl w8.heap.size w8
        refine takeH (i := 4) (v := ?_) 81 rfl rfl (by kernel_rfl) (by kernel_rfl) (by kernel_rfl) (fun _ _ _ h => h) (by rfl) ?hy4A2 hS ?rest4A2
        case hy4A2 => (intro W hW; have f0 := CV8.out W hW; clear hW; go_simp; first | done | with_reducible rfl)
        try simp only [Act.put, List.setIfInBounds_toArray, List.set_cons_zero, List.set_cons_succ]
        refine takeH (i := 13) (v := ?_) 90 rfl rfl (by kernel_rfl) (by kernel_rfl) (by kernel_rfl) (fun _ _ _ h => h) (by rfl) ?hy13A2 hS ?rest13A2
        case hy13A2 => (intro W hW; clear hW; go_simp; first | done | with_reducible rfl)
        try simp only [Act.put, List.setIfInBounds_toArray, List.set_cons_zero, List.set_cons_succ]
        refine takeH (i := 14) (v := ?_) 91 rfl rfl (by kernel_rfl) (by kernel_rfl) (by kernel_rfl) (fun _ _ _ h => h) (by rfl) ?hy14A2 hS ?rest14A2
        case hy14A2 => (intro W hW; clear hW; go_simp; first | done | with_reducible rfl)
        try simp only [Act.put, List.setIfInBounds_toArray, List.set_cons_zero, List.set_cons_succ]
        refine takeH (i := 15) (v := ?_) 92 rfl rfl (by kernel_rfl) (by kernel_rfl) (by kernel_rfl) (fun _ _ _ h => h) (by rfl) ?hy15A2 hS ?rest15A2
        case hy15A2 => (intro W hW; clear hW; go_simp; first | done | with_reducible rfl)
        try simp only [Act.put, List.setIfInBounds_toArray, List.set_cons_zero, List.set_cons_succ]
        refine takeH (i := 16) (v := ?_) 93 rfl rfl (by kernel_rfl) (by kernel_rfl) (by kernel_rfl) (fun _ _ _ h => h) (by rfl) ?hy16A2 hS ?rest16A2
        case hy16A2 => (intro W hW; clear hW; go_simp; first | done | with_reducible rfl)
        try simp only [Act.put, List.setIfInBounds_toArray, List.set_cons_zero, List.set_cons_succ]
        refine takeH (i := 18) (v := ?_) 95 rfl rfl (by kernel_rfl) (by kernel_rfl) (by kernel_rfl) (fun _ _ _ h => h) (by rfl) ?hy18A2 hS ?rest18A2
        case hy18A2 => (intro W hW; clear hW; go_simp; first | done | with_reducible rfl)
        try simp only [Act.put, List.setIfInBounds_toArray, List.set_cons_zero, List.set_cons_succ]
        refine takeH (i := 19) (v := ?_) 96 rfl rfl (by kernel_rfl) (by kernel_rfl) (by kernel_rfl) (fun _ _ _ h => h) (by rfl) ?hy19A2 hS ?rest19A2
        case hy19A2 => (intro W hW; clear hW; go_simp; first | done | with_reducible rfl)
        try simp only [Act.put, List.setIfInBounds_toArray, List.set_cons_zero, List.set_cons_succ]
        refine takeH (i := 20) (v := ?_) 97 rfl rfl (by kernel_rfl) (by kernel_rfl) (by kernel_rfl) (fun _ _ _ h => h) (by rfl) ?hy20A2 hS ?rest20A2
        case hy20A2 => (intro W hW; clear hW; go_simp; first | done | with_reducible rfl)
        try simp only [Act.put, List.setIfInBounds_toArray, List.set_cons_zero, List.set_cons_succ]
        refine loneH (i := 17) 94 rfl rfl (by kernel_rfl) (by rfl) (fun K hK => ?_)
        go_simp
        (with_reducible refine (HLS.out _ (B8.trans (hS.mono B8.size))).mono ?_)
        rintro e w9 ⟨rfl, b9⟩
        have B9 := hS.trans (b9.mono hS.size)
        clear b9 hS
        refine hK.out _ _ B9 (fun hS => ?_)
        clear hK K
        try simp only [Act.put, List.setIfInBounds_toArray, List.set_cons_zero, List.set_cons_succ]
        refine loneH (i := 21) 98 rfl rfl (by kernel_rfl) (by rfl) (fun K hK => ?_)
        go_simp
        (with_reducible refine (HBS.out _ (B8.trans (hS.mono B8.size))).mono ?_)
        rintro e w10 ⟨A10, c10, rfl, hr10, b10⟩
        have B10 := hS.trans (b10.mono hS.size)
        clear b10 hS hr10
        refine hK.out _ _ B10 (fun hS => ?_)
        clear hK K
        try simp only [Act.put, List.setIfInBounds_toArray, List.set_cons_zero, List.set_cons_succ]
        refine takeH (i := 22) (v := ?_) 99 rfl rfl (by kernel_rfl) (by kernel_rfl) (by kernel_rfl) (fun _ _ _ h => h) (by rfl) ?hy22A2 hS ?rest22A2
        case hy22A2 => (intro W hW; clear hW; go_simp; first | done | with_reducible rfl)
        try simp only [Act.put, List.setIfInBounds_toArray, List.set_cons_zero, List.set_cons_succ]
        refine takeH (i := 23) (v := ?_) 100 rfl rfl (by kernel_rfl) (by kernel_rfl) (by kernel_rfl) (fun _ _ _ h => h) (by rfl) ?hy23A2 hS ?rest23A2
        case hy23A2 => (intro W hW; clear hW; go_simp; first | done | with_reducible rfl)
        try simp only [Act.put, List.setIfInBounds_toArray, List.set_cons_zero, List.set_cons_succ]
        refine takeH (i := 24) (v := ?_) 101 rfl rfl (by kernel_rfl) (by kernel_rfl) (by kernel_rfl) (fun _ _ _ h => h) (by rfl) ?hy24A2 hS ?rest24A2
        case hy24A2 => (intro W hW; clear hW; go_simp; first | done | with_reducible rfl)
        try simp only [Act.put, List.setIfInBounds_toArray, List.set_cons_zero, List.set_cons_succ]
        refine takeH (i := 25) (v := ?_) 102 rfl rfl (by kernel_rfl) (by kernel_rfl) (by kernel_rfl) (fun _ _ _ h => h) (by rfl) ?hy25A2 hS ?rest25A2
        case hy25A2 => (intro W hW; clear hW; go_simp; first | done | with_reducible rfl)
        try simp only [Act.put, List.setIfInBounds_toArray, List.set_cons_zero, List.set_cons_succ]
        refine takeH (i := 26) (v := ?_) 103 rfl rfl (by kernel_rfl) (by kernel_rfl) (by kernel_rfl) (fun _ _ _ h => h) (by rfl) ?hy26A2 hS ?rest26A2
        case hy26A2 => (intro W hW; clear hW; go_simp; first | done | with_reducible rfl)
        try simp only [Act.put, List.setIfInBounds_toArray, List.set_cons_zero, List.set_cons_succ]
        refine takeH (i := 27) (v := ?_) 104 rfl rfl (by kernel_rfl) (by kernel_rfl) (by kernel_rfl) (fun _ _ _ h => h) (by rfl) ?hy27A2 hS ?rest27A2
        case hy27A2 => (intro W hW; clear hW; go_simp; first | done | with_reducible rfl)
        try simp only [Act.put, List.setIfInBounds_toArray, List.set_cons_zero, List.set_cons_succ]
        refine takeH (i := 28) (v := ?_) 105 rfl rfl (by kernel_rfl) (by kernel_rfl) (by kernel_rfl) (fun _ _ _ h => h) (by rfl) ?hy28A2 hS ?rest28A2
        case hy28A2 => (intro W hW; clear hW; go_simp; first | done | with_reducible rfl)
        try simp only [Act.put, List.setIfInBounds_toArray, List.set_cons_zero, List.set_cons_succ]
        refine takeH (i := 29) (v := ?_) 106 rfl rfl (by kernel_rfl) (by kernel_rfl) (by kernel_rfl) (fun _ _ _ h => h) (by rfl) ?hy29A2 hS ?rest29A2
        case hy29A2 => (intro W hW; clear hW; go_simp; first | done | with_reducible rfl)
        try simp only [Act.put, List.setIfInBounds_toArray, List.set_cons_zero, List.set_cons_succ]
        refine takeH (i := 30) (v := ?_) 107 rfl rfl (by kernel_rfl) (by kernel_rfl) (by kernel_rfl) (fun _ _ _ h => h) (by rfl) ?hy30A2 hS ?rest30A2
        case hy30A2 => (intro W hW; clear hW; go_simp; first | done | with_reducible rfl)
        try simp only [Act.put, List.setIfInBounds_toArray, List.set_cons_zero, List.set_cons_succ]
        refine takeH (i := 31) (v := ?_) 108 rfl rfl (by kernel_rfl) (by kernel_rfl) (by kernel_rfl) (fun _ _ _ h => h) (by rfl) ?hy31A2 hS ?rest31A2
        case hy31A2 => (intro W hW; clear hW; go_simp; first | done | with_reducible rfl)
        try simp only [Act.put, List.setIfInBounds_toArray, List.set_cons_zero, List.set_cons_succ]
        refine takeH (i := 32) (v := ?_) 109 rfl rfl (by kernel_rfl) (by kernel_rfl) (by kernel_rfl) (fun _ _ _ h => h) (by rfl) ?hy32A2 hS ?rest32A2
        case hy32A2 => (intro W hW; clear hW; go_simp; first | done | with_reducible rfl)
        try simp only [Act.put, List.setIfInBounds_toArray, List.set_cons_zero, List.set_cons_succ]
        refine takeH (i := 33) (v := ?_) 110 rfl rfl (by kernel_rfl) (by kernel_rfl) (by kernel_rfl) (fun _ _ _ h => h) (by rfl) ?hy33A2 hS ?rest33A2
        case hy33A2 => (intro W hW; clear hW; go_simp; first | done | with_reducible rfl)
        try simp only [Act.put, List.setIfInBounds_toArray, List.set_cons_zero, List.set_cons_succ]
        refine takeH (i := 34) (v := ?_) 111 rfl rfl (by kernel_rfl) (by kernel_rfl) (by kernel_rfl) (fun _ _ _ h => h) (by rfl) ?hy34A2 hS ?rest34A2
        case hy34A2 => (intro W hW; clear hW; go_simp; first | done | with_reducible rfl)
        try simp only [Act.put, List.setIfInBounds_toArray, List.set_cons_zero, List.set_cons_succ]
        refine takeH (i := 35) (v := ?_) 4 rfl rfl (by kernel_rfl) (by kernel_rfl) (by kernel_rfl) (fun _ _ _ h => h) (by rfl) ?hy35A2 hS ?rest35A2
        case hy35A2 => (intro W hW; clear hW; go_simp; first | done | with_reducible rfl)
        try simp only [Act.put, List.setIfInBounds_toArray, List.set_cons_zero, List.set_cons_succ]
        refine wpAnyH_done (by kernel_rfl) ?_ _
        go_wp2
        go_ret
        exact ⟨ret_bool (by show (fb == decide (r < xs.length)) = true; rw [← HFB.out]; simp), HB.out.trans ((B8.trans (B10.mono B8.size)).mono HB.out.size)⟩

theorem sinkFront_any (A : Option Addr) (n c : Nat) (ls : List (List Int)) (r : Int) (w : World) (hr : RdR w w.heap.size A n ls) (hnc : n ≤ c) (hc : c ≤ maxLen) (hr5 : 0 ≤ r ∧ r ≤ 255) :
    Calls Try.prog 5 #[.slice A n c, .int .u8 r] w fun e w' => e = .returned (.bool true) ∧ Below w.heap.size w w' := by
  obtain ⟨r', rfl⟩ : ∃ r' : Nat, r = r' := ⟨r.toNat, by omega⟩
  exact sinkFront_nat A n c ls r' w hr hnc hc (by omega)
end Go.Proofs.Ytgjafjochgljnaa
