/-
  The document's Split, Join and Clean.
-/
import Derived.Test.YtpmhmglckeafgaaDoorStrClean
import Derived.Test.YtpmhmglckeafgaaDoorUtfLoop
import Derived.LoopTactic
namespace Go.Proofs.YtpmhmglckeafgaaDoor
open Go.RowKit Go.Shelf

namespace M
/-- What lies between two places. -/
def piece (l : List UInt8) (f i : Nat) : List UInt8 := (l.drop f).take (i - f)
theorem piece_split {l : List UInt8} {f i : Nat} (hf : f ≤ i) (hi : i < l.length) : l.drop f = piece l f i ++ l[i] :: l.drop (i + 1) := by
  unfold piece
  conv => lhs; rw [← List.take_append_drop (i - f) (l.drop f), List.drop_drop]
  rw [show f + (i - f) = i by omega, List.drop_eq_getElem_cons hi]
theorem piece_mem {l : List UInt8} {f i : Nat} (hi : i ≤ l.length) (h : ∀ k, f ≤ k → k < i → at' l k ≠ 47) : ∀ c ∈ piece l f i, c ≠ 47 := by
  intro c hc
  unfold piece at hc
  obtain ⟨k, hk, rfl⟩ := List.getElem_of_mem hc
  rw [List.length_take, List.length_drop] at hk
  rw [List.getElem_take, List.getElem_drop]
  have := h (f + k) (by omega) (by omega)
  unfold at' at this
  rw [List.getD_eq_getElem?_getD, List.getElem?_eq_getElem (by omega)] at this
  intro e
  apply this
  rw [Option.getD_some, e]
  rfl
theorem names_one {p : List UInt8} (hp : ∀ c ∈ p, c ≠ 47) : names p = if leads p = true then [p] else [] := by
  unfold names
  rw [parts_one hp, List.filter_cons]
  split <;> rfl
theorem names_slash {l : List UInt8} {f i : Nat} (hf : f ≤ i) (hi : i < l.length) (h : ∀ k, f ≤ k → k < i → at' l k ≠ 47) (hs : at' l i = 47) :
    names (l.drop f) = (if leads (piece l f i) = true then [piece l f i] else []) ++ names (l.drop (i + 1)) := by
  have e : l[i] = 47 := by
    unfold at' at hs
    rw [List.getD_eq_getElem?_getD, List.getElem?_eq_getElem hi, Option.getD_some] at hs
    exact UInt8.toNat_inj.1 hs
  rw [piece_split hf hi, e, names_app, names_one (piece_mem (Nat.le_of_lt hi) h)]
theorem names_end {l : List UInt8} {f : Nat} (h : ∀ k, f ≤ k → k < l.length → at' l k ≠ 47) : names (l.drop f) = if leads (piece l f l.length) = true then [piece l f l.length] else [] := by
  have e : l.drop f = piece l f l.length := by unfold piece; rw [List.take_of_length_le (by rw [List.length_drop]; omega)]
  rw [e, names_one (piece_mem (Nat.le_refl _) h)]
end M

theorem ext_piece (s : ByteArray) (f i : Nat) : tl (s.extract f i) = M.piece (tl s) f i := by
  unfold tl M.piece; simp [ByteArray.data_extract]

theorem piece_ext (s : ByteArray) (f i : Nat) : M.leads (M.piece (tl s) f i) = (!(tl (s.extract f i) == []) && !(tl (s.extract f i) == [46])) := by
  rw [ext_piece]; rfl
theorem piece_none {s : ByteArray} {f i : Nat} (h : i ≤ f) : M.leads (M.piece (tl s) f i) = false := by
  unfold M.piece M.leads; rw [show i - f = 0 by omega, List.take_zero]; rfl
theorem piece_some {s : ByteArray} {f i : Nat} (h : f < i) (hi : i ≤ s.size) : M.leads (M.piece (tl s) f i) = !((s.extract f i).toList == [46]) := by
  rw [piece_ext, tl_eq]
  have : tl (s.extract f i) ≠ [] := by
    intro e
    have h1 := congrArg List.length e
    have h2 : (tl (s.extract f i)).length = (s.extract f i).size := rfl
    rw [h2] at h1
    simp at h1
    omega
  simp [this]

/-- The document's Split between two rounds. -/
def SplitAt (s : ByteArray) (w wr : World) (v : Value) (f i : Nat) : Prop :=
  ∃ xs : List ByteArray, wr.ownsRow w.heap.size 9 1 v xs.length (strs xs) ∧ Below w.heap.size w wr ∧ xs.length ≤ i ∧ f ≤ i ∧
    ((i ≤ s.size ∧ (∀ k, f ≤ k → k < i → M.at' (tl s) k ≠ 47) ∧ M.names (tl s) = xs.map tl ++ M.names ((tl s).drop f)) ∨ (i = s.size + 1 ∧ M.names (tl s) = xs.map tl))

set_option maxRecDepth 100000 in
set_option maxHeartbeats 2000000 in
theorem refSplit_any (s : ByteArray) (hs : s.size ≤ 1000000) (w : World) :
    Calls Tryd.prog 32 #[.string s] w fun e w' => ∃ v, e = .returned v ∧ Texts w' w.heap.size v (M.names (tl s)) ∧ Below w.heap.size w w' := by
  obtain ⟨i0, hi0, hz0, hz1, hz2⟩ := info_parts infoS
  go_enter Tryd.func32, Tryd.ntmps32
  go_wp2
  go_loopw [3, 4, 5] (fun v f i wr => ∃ fn im : Nat, f = .int .i64 fn ∧ i = .int .i64 im ∧ SplitAt s w wr v fn im) (fun _ _ i _ => s.size + 1 - (intOf i).toNat)
  case atStart => exact ⟨0, 0, rfl, rfl, [], World.ownsRow_nil _ _ _ _, Below.refl _ _, Nat.le_refl _, Nat.le_refl _, .inl ⟨Nat.zero_le _, fun k _ h => absurd h (by omega), by simp⟩⟩
  case round =>
    obtain ⟨f, i, rfl, rfl, xs, hrow, hb, hxl, hfi, hcase⟩ := hrel
    rcases hcase with ⟨hi, hno, hn⟩ | ⟨hi, hn⟩
    · rcases Nat.lt_or_ge i s.size with hlt | hge
      · have hat := at_eq s i hlt
        have hb256 : (s[i]'hlt).toNat < 256 := UInt8.toNat_lt _
        by_cases hsl : M.at' s.data.toList i = 47
        · have hstep := M.names_slash hfi (l := tl s) (by exact hlt) hno hsl
          rw [hat] at hsl
          have hsl' : (((s[i]'hlt).toNat : Int) != 47) = false := by simp; omega
          have HN := Lib.hid hn
          clear hat hno hn hsl
          by_cases hfi' : f < i
          · have hlead := piece_some (s := s) hfi' (Nat.le_of_lt hlt)
            by_cases hd : ((s.extract f i).toList == [46]) = true
            · rw [hd] at hlead
              rw [hlead, if_neg (by decide)] at hstep
              have HS := Lib.hid hstep; clear hstep hlead
              skip
              go_wp2
              refine ⟨⟨i + 1, i + 1, by go_num, by go_num, xs, hrow, hb, by omega, Nat.le_refl _, .inl ⟨by omega, fun k h1 h2 => absurd h2 (by omega), by rw [HN.out, HS.out]; simp⟩⟩, by simp [intOf]; omega⟩
            · have hd' : ((s.extract f i).toList == [46]) = false := by simpa using hd
              rw [hd'] at hlead
              rw [hlead, if_pos (by decide)] at hstep
              have HS := Lib.hid hstep; clear hstep hlead hd
              have hbz := hb.size
              skip
              go_wp2_with (at_builtin; refine wpList_append_own _ rfl _ _ 24 rfl w.heap.size 9 i0 (.string ⟨#[]⟩) 1 16 Tryd.underlying24 hi0 hz0 hz1 hz2 rfl (by decide) _ _ _ rfl (hrow.alloc _) ⟨wr.heap.size, 0, none⟩ 1 1 [.string (s.extract f i)] rfl rfl (cell_one_new _ _ _) (by simp [Value.oneCell']) (by unfold maxLen; omega) (by omega) (by simp; omega) ?_; intro v' w1 hown' hgrow _; have HG := Lib.hid hgrow; clear hgrow)
              refine ⟨⟨i + 1, i + 1, by go_num, by go_num, xs ++ [s.extract f i], by rw [strs_snoc, List.length_append]; exact hown', ?_, by rw [List.length_append, List.length_singleton]; omega, Nat.le_refl _, .inl ⟨by omega, fun k h1 h2 => absurd h2 (by omega), by rw [HN.out, HS.out, ← ext_piece]; simp⟩⟩, by simp [intOf]; omega⟩
              exact (hb.alloc hb.size _).grown HG.out (by simp; omega) (fun k hk => ownsRow_block hrow k hk)
          · rw [piece_none (by omega), if_neg (by decide)] at hstep
            have HS := Lib.hid hstep; clear hstep
            skip
            go_wp2
            refine ⟨⟨i + 1, i + 1, by go_num, by go_num, xs, hrow, hb, by omega, Nat.le_refl _, .inl ⟨by omega, fun k h1 h2 => absurd h2 (by omega), by rw [HN.out, HS.out]; simp⟩⟩, by simp [intOf]; omega⟩
        · have hno2 : ∀ k, f ≤ k → k < i + 1 → M.at' (tl s) k ≠ 47 := fun k h1 h2 => by
            rcases Nat.lt_or_ge k i with h3 | h3
            · exact hno k h1 h3
            · obtain rfl : k = i := by omega
              exact hsl
          rw [hat] at hsl
          have hsl' : (((s[i]'hlt).toNat : Int) != 47) = true := by simp; omega
          have HN := Lib.hid hn
          have HH := Lib.hid hno2
          clear hn hno hno2 hat hsl
          go_wp2
          refine ⟨⟨f, i + 1, rfl, by go_num, xs, hrow, hb, by omega, by omega, .inl ⟨by omega, HH.out, HN.out⟩⟩, by simp [intOf]; omega⟩
      · obtain rfl : i = s.size := by omega
        have hstep := M.names_end (l := tl s) (f := f) hno
        rw [show (tl s).length = s.size from rfl] at hstep
        have HN := Lib.hid hn
        clear hno hn
        by_cases hfi' : f < s.size
        · have hlead := piece_some (s := s) hfi' (Nat.le_refl _)
          by_cases hd : ((s.extract f s.size).toList == [46]) = true
          · rw [hd] at hlead
            rw [hlead, if_neg (by decide)] at hstep
            have HS := Lib.hid hstep; clear hstep hlead
            skip
            go_wp2
            refine ⟨⟨s.size + 1, s.size + 1, by go_num, by go_num, xs, hrow, hb, by omega, Nat.le_refl _, .inr ⟨rfl, by rw [HN.out, HS.out]; simp⟩⟩, by simp [intOf]⟩
          · have hd' : ((s.extract f s.size).toList == [46]) = false := by simpa using hd
            rw [hd'] at hlead
            rw [hlead, if_pos (by decide)] at hstep
            have HS := Lib.hid hstep; clear hstep hlead hd
            have hbz := hb.size
            skip
            go_wp2_with (at_builtin; refine wpList_append_own _ rfl _ _ 24 rfl w.heap.size 9 i0 (.string ⟨#[]⟩) 1 16 Tryd.underlying24 hi0 hz0 hz1 hz2 rfl (by decide) _ _ _ rfl (hrow.alloc _) ⟨wr.heap.size, 0, none⟩ 1 1 [.string (s.extract f s.size)] rfl rfl (cell_one_new _ _ _) (by simp [Value.oneCell']) (by unfold maxLen; omega) (by omega) (by simp; omega) ?_; intro v' w1 hown' hgrow _; have HG := Lib.hid hgrow; clear hgrow)
            refine ⟨⟨s.size + 1, s.size + 1, by go_num, by go_num, xs ++ [s.extract f s.size], by rw [strs_snoc, List.length_append]; exact hown', ?_, by rw [List.length_append, List.length_singleton]; omega, Nat.le_refl _, .inr ⟨rfl, by rw [HN.out, HS.out, ← ext_piece]; simp⟩⟩, by simp [intOf]⟩
            exact (hb.alloc hb.size _).grown HG.out (by simp; omega) (fun k hk => ownsRow_block hrow k hk)
        · rw [piece_none (by omega), if_neg (by decide)] at hstep
          have HS := Lib.hid hstep; clear hstep
          skip
          go_wp2
          refine ⟨⟨s.size + 1, s.size + 1, by go_num, by go_num, xs, hrow, hb, by omega, Nat.le_refl _, .inr ⟨rfl, by rw [HN.out, HS.out]; simp⟩⟩, by simp [intOf]⟩
    · have HN := Lib.hid hn
      clear hn
      subst hi
      go_wp2
      go_ret
      exact ⟨_, rfl, ⟨xs, HN.out.symm, hrow⟩, hb⟩

/-- A slice of texts that is read. -/
def ReadsS (w : World) (v : Value) (ts : List (List UInt8)) : Prop :=
  ∃ (xs : List ByteArray) (A : Option Addr) (c : Nat), xs.map tl = ts ∧ v = .slice A xs.length c ∧ xs.length ≤ c ∧ (0 < xs.length → ∃ b o, A = some ⟨b, o, none⟩ ∧ ∀ k x, xs[k]? = some x → w.cell? ⟨b, o + k, none⟩ = some (.string x))

theorem Texts.reads {w : World} {B : Nat} {v : Value} {ts : List (List UInt8)} (h : Texts w B v ts) : ReadsS w v ts := by
  obtain ⟨xs, he, hr⟩ := h
  rcases hr.2 with ⟨hv, h0⟩ | ⟨g, cap, cur, hv, hb, hg, hc, hm, hz, ht⟩
  · refine ⟨xs, none, 0, he, by rw [hv, h0], by omega, fun h => by omega⟩
  · refine ⟨xs, some ⟨g, 0, none⟩, cap, he, hv, hc, fun _ => ⟨g, 0, rfl, fun k x hx => ?_⟩⟩
    have := hr.cells (g := g) (by rw [hv]; rfl) k (.string x) (by simp [strs, hx])
    rcases k with _ | k <;> simpa [Addr.add] using this

theorem Texts.below {w w' : World} {B : Nat} {v : Value} {ts : List (List UInt8)} (h : Texts w B v ts) (hb : Below w.heap.size w w') : Texts w' B v ts := by
  obtain ⟨xs, he, hr⟩ := h
  refine ⟨xs, he, hr.1, ?_⟩
  rcases hr.2 with h0 | ⟨g, cap, cur, hv, hb', hg, h1⟩
  · exact .inl h0
  · exact .inr ⟨g, cap, cur, hv, hb', (hb.block g (Array.getElem?_eq_some_iff.1 hg).1).trans hg, h1⟩

theorem bs_of {s : ByteArray} {l : List UInt8} (h : tl s = l) : s = ⟨l.toArray⟩ := WideShapes.bytes_inj (by rw [← h]; simp [tl])

theorem ret_str {a b : ByteArray} (h : a = b) : Ending.returned (.string a) = .returned (.string b) := by rw [h]
theorem ret_str_bool {a b : ByteArray} {c d : Bool} (h : a = b) (k : c = d) : Ending.returned (.tuple #[.string a, .bool c]) = .returned (.tuple #[.string b, .bool d]) := by rw [h, k]

theorem tl_append (a b : ByteArray) : tl (a ++ b) = tl a ++ tl b := by
  unfold tl; simp [ByteArray.data_append]

theorem take_map_succ {xs : List ByteArray} {k : Nat} (h : k < xs.length) : (xs.take (k + 1)).map tl = (xs.take k).map tl ++ [tl xs[k]] := by
  rw [List.take_succ_eq_append_getElem h, List.map_append]; rfl

theorem join_take {ps : List (List UInt8)} (k : Nat) : (M.join (ps.take k)).length ≤ (ps.map List.length).sum + ps.length := by
  have h1 := M.join_length (ps.take k)
  have h2 : ((ps.take k).map List.length).sum + (ps.take k).length ≤ (ps.map List.length).sum + ps.length := by
    have e := congrArg (fun l : List (List UInt8) => (l.map List.length).sum + l.length) (List.take_append_drop k ps)
    simp only [List.map_append, List.sum_append, List.length_append] at e
    omega
  omega

theorem len_mem_sum {p : List UInt8} : ∀ {ps : List (List UInt8)}, p ∈ ps → p.length ≤ (ps.map List.length).sum
  | [], h => by cases h
  | a :: r, h => by
    simp
    rcases List.mem_cons.1 h with rfl | h
    · omega
    · have := len_mem_sum h; omega

set_option maxRecDepth 100000 in
set_option maxHeartbeats 1000000 in
theorem join_any (v : Value) (ts : List (List UInt8)) (hlen : (ts.map List.length).sum + ts.length ≤ 10000000) (w : World) (h : ReadsS w v ts) :
    Calls Tryd.prog 24 #[v] w fun e w' => e = .returned (.string ⟨(M.join ts).toArray⟩) ∧ w = w' := by
  obtain ⟨xs, A, c, rfl, rfl, hcap, hc⟩ := h
  have hxl : xs.length ≤ 10000000 := by rw [List.length_map] at hlen; omega
  have HL := Lib.hid hlen; clear hlen
  go_enter Tryd.func24, Tryd.ntmps24
  go_wp2
  go_loop [3, 4] (fun r i => ∃ (k : Nat) (s : ByteArray), i = .int .i64 k ∧ r = .string s ∧ k ≤ xs.length ∧ tl s = M.join ((xs.take k).map tl)) (fun _ i => xs.length - (intOf i).toNat)
  case atStart => exact ⟨0, ⟨#[]⟩, rfl, rfl, Nat.zero_le _, rfl⟩
  case round =>
    obtain ⟨k, s, rfl, rfl, hk, hs⟩ := hrel
    by_cases hlt : k < xs.length
    · obtain ⟨b, o, rfl, hcell⟩ := hc (by omega)
      have hck := hcell k xs[k] (List.getElem?_eq_getElem hlt)
      have hj := M.join_snoc ((xs.take k).map tl) (tl xs[k])
      rw [← take_map_succ hlt] at hj
      have hsl : s.size ≤ 10000000 := by
        have h1 := join_take (ps := xs.map tl) k
        rw [← List.map_take, ← hs] at h1
        have h2 : (tl s).length = s.size := rfl
        have := HL.out
        omega
      have hxk : xs[k].size ≤ 10000000 := by
        have h1 := len_mem_sum (List.mem_map_of_mem (f := tl) (List.getElem_mem hlt))
        have h2 : (tl xs[k]).length = xs[k].size := rfl
        have := HL.out
        omega
      have HS := Lib.hid hs
      have HC := Lib.hid hc
      clear hs hc hcell
      by_cases h0 : k = 0
      · subst h0
        have HJ := Lib.hid hj; clear hj
        simp only [Nat.add_zero] at hck
        go_wp2
        go_round
        case rel => exact ⟨1, _, by go_num, rfl, by omega, by rw [tl_append, HS.out, HJ.out]; simp [M.join]⟩
        case measure => simp [intOf]; omega
      · have hne : (xs.take k).map tl ≠ [] := by
          intro e
          have := congrArg List.length e
          rw [List.length_map, List.length_take, List.length_nil] at this
          omega
        rw [if_neg hne] at hj
        have HJ := Lib.hid hj; clear hj hne
        have hd : (0 : Int) < (k : Int) := by omega
        clear h0
        go_wp2
        go_round
        case rel => exact ⟨k + 1, _, by go_num, rfl, by omega, by rw [tl_append, tl_append, HS.out, HJ.out, List.append_assoc]; rfl⟩
        case measure => simp [intOf]; omega
    · obtain rfl : k = xs.length := by omega
      rw [List.take_length] at hs
      have HS := Lib.hid hs
      clear hs hc
      go_wp2
      go_ret
      exact ⟨ret_str (bs_of HS.out), rfl⟩

theorem names_sum (l : List UInt8) : ((M.names l).map List.length).sum + (M.names l).length ≤ l.length + 1 := by
  have h2 := M.sum_filter M.leads (M.parts l)
  have h3 := M.joinlen_parts l
  unfold M.names
  omega

theorem head_slash (s : ByteArray) (h : 0 < s.size) : [47].isPrefixOf (tl s) = decide ((s[0]'h).toNat = 47) := by
  have h1 : 0 < (tl s).length := h
  have e : (tl s)[0]'h1 = s[0]'h := rfl
  rw [← e]
  clear e
  revert h1
  generalize tl s = l
  intro h1
  cases l with
  | nil => simp at h1
  | cons c r =>
    have e2 : (47 == c) = decide (c.toNat = 47) := by
      rw [Bool.eq_iff_iff, beq_iff_eq, decide_eq_true_eq, ← UInt8.toNat_inj]
      exact eq_comm
    simpa [List.isPrefixOf] using e2

set_option maxRecDepth 100000 in
set_option maxHeartbeats 1000000 in
theorem refClean_any (s : ByteArray) (hs : s.size ≤ 1000000) (w : World) :
    Calls Tryd.prog 31 #[.string s] w fun e w' => e = .returned (cleanV (tl s)) ∧ Below w.heap.size w w' := by
  have hsum := names_sum (tl s)
  have htl : (tl s).length = s.size := rfl
  rw [htl] at hsum
  by_cases hp : [47].isPrefixOf (tl s) = true
  · have h0 : 0 < s.size := by
      rcases Nat.eq_zero_or_pos s.size with h | h
      · have : tl s = [] := List.eq_nil_of_length_eq_zero h
        rw [this] at hp
        simp at hp
      · exact h
    have hh := hp
    rw [head_slash s h0, decide_eq_true_eq] at hh
    have HP := Lib.hid hp; clear hp
    have he : (((s[0]'h0).toNat : Int) == 47) = true := by simp; omega
    clear hh htl hsum
    go_enter Tryd.func31, Tryd.ntmps31
    go_wp2
    go_ret2
    exact ⟨by unfold cleanV M.clean; rw [if_pos HP.out]; exact ret_str_bool rfl rfl, Below.refl _ _⟩
  · have hp' : [47].isPrefixOf (tl s) = false := by cases h : [47].isPrefixOf (tl s) with
      | true => exact absurd h hp
      | false => rfl
    have HP := Lib.hid hp'
    clear hp
    have hgo : Hid (s.size = 0 ∨ ∃ h0 : 0 < s.size, (((s[0]'h0).toNat : Int) == 47) = false) := by
      rcases Nat.eq_zero_or_pos s.size with h | h
      · exact .inl h
      · refine .inr ⟨h, ?_⟩
        rw [head_slash s h, decide_eq_false_iff_not] at hp'
        simp; omega
    clear hp' htl
    have HSUM := Lib.hid hsum; clear hsum
    go_enter Tryd.func31, Tryd.ntmps31
    have hsp := refSplit_any s hs w
    have HSP := Lib.hid hsp; clear hsp
    rcases hgo.out with h0 | ⟨h0, he⟩
    · obtain rfl : s = ⟨#[]⟩ := WideShapes.bytes_inj (List.eq_nil_of_length_eq_zero h0)
      clear h0 hgo
      have hnil : M.names (tl ⟨#[]⟩) = [] := rfl
      have HNIL := Lib.hid hnil; clear hnil
      go_wp2_with (go_at_call 32; refine HSP.out.mono ?_; rintro e w1 ⟨v, rfl, ht, hb⟩; have hr := ht.reads; rw [HNIL.out] at hr; obtain ⟨xs, A, c, hx, rfl, hcap, hc⟩ := hr; obtain rfl : xs = [] := List.map_eq_nil_iff.1 hx; clear hx hc hcap)
      go_loop [5] (fun i => i = .int .i64 0) (fun _ => 0)
      case atStart => rfl
      case round =>
        obtain rfl := hrel
        go_wp2_with (go_at_call 24; refine (join_any _ [] (by simp) _ ⟨[], A, c, rfl, rfl, by simp, fun h => absurd h (by simp)⟩).mono ?_; rintro e w' ⟨rfl, rfl⟩)
        go_ret2
        exact ⟨by unfold cleanV M.clean; rw [if_neg (by rw [HP.out]; decide), HNIL.out]; exact ret_str_bool rfl rfl, hb⟩
    · clear hgo
      go_wp2_with (go_at_call 32; refine HSP.out.mono ?_; rintro e w1 ⟨v, rfl, ht, hb⟩; have hr := ht.reads; obtain ⟨xs, A, c, hx, rfl, hcap, hc⟩ := hr; have HX := Lib.hid hx; clear hx ht)
      have hxl : xs.length ≤ 1000001 := by have h1 := congrArg List.length HX.out; rw [List.length_map] at h1; have := HSUM.out; omega
      go_loop [5] (fun i => ∃ k : Nat, i = .int .i64 k ∧ k ≤ xs.length ∧ ∀ j x, j < k → xs[j]? = some x → tl x ≠ [46, 46]) (fun i => xs.length - (intOf i).toNat)
      case atStart => exact ⟨0, rfl, Nat.zero_le _, fun j x h => absurd h (by omega)⟩
      case round =>
        obtain ⟨k, rfl, hk, hno⟩ := hrel
        by_cases hlt : k < xs.length
        · obtain ⟨b, o, rfl, hcell⟩ := hc (by omega)
          have hck := hcell k xs[k] (List.getElem?_eq_getElem hlt)
          have HC := Lib.hid hc
          have HN := Lib.hid hno
          clear hc hno hcell
          by_cases hd : (xs[k].toList == [46, 46]) = true
          · have hm : (M.names (tl s)).contains [46, 46] = true := by
              rw [← HX.out, List.contains_eq_mem, decide_eq_true_eq]
              rw [tl_eq] at hd
              have : tl xs[k] = [46, 46] := by simpa using hd
              rw [← this]
              exact List.mem_map_of_mem (List.getElem_mem hlt)
            have HM := Lib.hid hm; clear hm
            by_cases h0' : k = 0
            · subst h0'
              simp only [Nat.add_zero] at hck
              go_wp2
              go_ret2
              exact ⟨by unfold cleanV M.clean; rw [if_neg (by rw [HP.out]; decide), if_pos HM.out]; exact ret_str_bool rfl rfl, hb⟩
            · have hk0 : 0 < k := by omega
              clear h0'
              go_wp2
              go_ret2
              exact ⟨by unfold cleanV M.clean; rw [if_neg (by rw [HP.out]; decide), if_pos HM.out]; exact ret_str_bool rfl rfl, hb⟩
          · have hd' : (xs[k].toList == [46, 46]) = false := by simpa using hd
            have hne : tl xs[k] ≠ [46, 46] := by rw [tl_eq] at hd'; simpa using hd'
            have hno2 : ∀ j x, j < k + 1 → xs[j]? = some x → tl x ≠ [46, 46] := fun j x h1 h2 => by
              rcases Nat.lt_or_ge j k with h3 | h3
              · exact HN.out j x h3 h2
              · obtain rfl : j = k := by omega
                rw [List.getElem?_eq_getElem hlt] at h2
                injection h2 with h2
                rw [← h2]; exact hne
            have HN2 := Lib.hid hno2
            clear hno2 hne hd
            by_cases h0' : k = 0
            · subst h0'
              simp only [Nat.add_zero] at hck
              go_wp2
              go_round
              case rel => exact ⟨1, by go_num, by omega, HN2.out⟩
              case measure => simp [intOf]; omega
            · have hk0 : 0 < k := by omega
              clear h0'
              go_wp2
              go_round
              case rel => exact ⟨k + 1, by go_num, by omega, HN2.out⟩
              case measure => simp [intOf]; omega
        · obtain rfl : k = xs.length := by omega
          have hm : (M.names (tl s)).contains [46, 46] = false := by
            rw [← HX.out, List.contains_eq_mem, decide_eq_false_iff_not]
            intro hm
            obtain ⟨x, hx, e⟩ := List.mem_map.1 hm
            obtain ⟨j, hj, rfl⟩ := List.getElem_of_mem hx
            exact hno j _ hj (List.getElem?_eq_getElem hj) e
          have HM := Lib.hid hm
          have hjn : (M.names (tl s)) = xs.map tl := HX.out.symm
          have HJ := Lib.hid hjn
          have HC := Lib.hid hc
          clear hm hjn hc hno
          go_wp2_with (go_at_call 24; refine (join_any _ (M.names (tl s)) (by have := HSUM.out; omega) _ ⟨xs, A, c, HX.out, rfl, hcap, HC.out⟩).mono ?_; rintro e w' ⟨rfl, rfl⟩)
          go_ret2
          exact ⟨by unfold cleanV M.clean; rw [if_neg (by rw [HP.out]; decide), if_neg (by rw [HM.out]; decide)]; exact ret_str_bool rfl rfl, hb⟩
end Go.Proofs.YtpmhmglckeafgaaDoor
