/-
  The contracts of the document's Read and Gather.
-/
import Derived.Test.YteneknmbddnkaaaMedRefR
import Derived.Test.YteneknmbddnkaaaMedNext
namespace Go.Proofs.Yteneknmbddnkaaa
open Go.RowKit Go.Lib

theorem results_TB {f : Func} (hf : f.results = #[ResultVar.cell 2 41, ResultVar.tmp 3, ResultVar.tmp 4]) {tmps : Array Value} {g : Nat} {a b c d e x y : Value} {w : World} (hk : tmps.getD 2 undef = .pointer (some ⟨g, 0, none⟩)) (hb : Blk w g 41 [a, b, c, d, e])
    (hx : tmps.getD 3 undef = x) (hy : tmps.getD 4 undef = y) :
    (results f tmps).run Try.prog w = .ok (.tuple #[.agg #[a, b, c, d, e], x, y]) w := by
  simp only [results, hf]
  rw [Array.getD_eq_getD_getElem?] at hk hx hy
  have c0 := hb.cell (i := 0) rfl
  have c1 := hb.cell (i := 1) rfl
  have c2 := hb.cell (i := 2) rfl
  have c3 := hb.cell (i := 3) rfl
  have c4 := hb.cell (i := 4) rfl
  simp [go_sem, hk, hx, hy, c0, c1, c2, c3, c4]

/-- What the document's Read gives. -/
def TRead (w : World) (B : Nat) (A : Option Addr) (n c : Nat) (v1 v2 : Value) (zs ss : List Int) (p t : Nat) (e : Ending) (w' : World) : Prop :=
  ∃ A' c', e = .returned (.tuple #[.agg #[.slice A n c, v1, v2, .int .i64 ((p + M.pc (M.szs ss) t (n - p) : Nat) : Int), .int .i64 (((t + 1) % (M.szs ss).length : Nat) : Int)], .slice A' (M.pc (M.szs ss) t (n - p)) c', .bool true]) ∧
    Rd w' B A' (M.pc (M.szs ss) t (n - p)) (M.pbytes zs p (M.pc (M.szs ss) t (n - p))) ∧ Below w.heap.size w w'

theorem two_blocks (w : World) (vs : List Value) : ∃ w0, (w.alloc (.cells vs.toArray 41)).alloc (.cells zeroT.toArray 41) = w0 ∧ Below w.heap.size w w0 ∧ Blk w0 w.heap.size 41 vs ∧ Blk w0 (w.heap.size + 1) 41 zeroT := by
  refine ⟨_, rfl, ((Below.refl _ _).alloc (Nat.le_refl _) _).alloc (by simp) _, (Blk.new w _ vs).alloc _, ?_⟩
  have := Blk.new (w.alloc (.cells vs.toArray 41)) 41 zeroT
  rwa [World.size_alloc] at this

theorem two_more (w : World) (vs us : List Value) : ∃ w0, (w.alloc (.cells vs.toArray 41)).alloc (.cells us.toArray 41) = w0 ∧ Below w.heap.size w w0 ∧ Blk w0 (w.heap.size + 1) 41 us := by
  refine ⟨_, rfl, ((Below.refl _ _).alloc (Nat.le_refl _) _).alloc (by simp) _, ?_⟩
  have := Blk.new (w.alloc (.cells vs.toArray 41)) 41 us
  rwa [World.size_alloc] at this
set_option maxRecDepth 100000 in
set_option maxHeartbeats 1000000 in
theorem refRead_none (A : Option Addr) (n c : Nat) (A1 : Option Addr) (n1 c1 : Nat) (A2 : Option Addr) (n2 c2 : Nat) (t : Nat) (w : World) (hn : n ≤ 1000000) (ht : t ≤ 1000000) :
    Calls Try.prog 19 #[.agg #[.slice A n c, .slice A1 n1 c1, .slice A2 n2 c2, .int .i64 n, .int .i64 t]] w fun e w' =>
      e = .returned (.tuple #[.agg #[.slice A n c, .slice A1 n1 c1, .slice A2 n2 c2, .int .i64 n, .int .i64 t], .slice none 0 0, .bool false]) ∧ Below w.heap.size w w' := by
  obtain ⟨w0, hw0, hb0, hx0, hy0⟩ := two_blocks w [.slice A n c, .slice A1 n1 c1, .slice A2 n2 c2, .int .i64 n, .int .i64 t]
  unfold zeroT at hw0 hy0
  have k0 := hx0.cell (i := 0) rfl
  have k1 := hx0.cell (i := 1) rfl
  have k2 := hx0.cell (i := 2) rfl
  have k3 := hx0.cell (i := 3) rfl
  have k4 := hx0.cell (i := 4) rfl
  have l0 := hy0.cell (i := 0) rfl
  have l1 := hy0.cell (i := 1) rfl
  have l2 := hy0.cell (i := 2) rfl
  have l3 := hy0.cell (i := 3) rfl
  have l4 := hy0.cell (i := 4) rfl
  have f0 := hy0.frozen 0
  have f1 := hy0.frozen 1
  have f2 := hy0.frozen 2
  have f3 := hy0.frozen 3
  have f4 := hy0.frozen 4
  have HB0 := hid hb0
  have HY0 := hid hy0
  clear hb0 hx0 hy0
  go_enter Try.func19, Try.ntmps19
  go_wp2
  have hg := ((((grownBy_setCell w0 (w.heap.size + 1) 0 (.slice A n c)).trans (grownBy_setCell _ (w.heap.size + 1) 1 (.slice A1 n1 c1))).trans (grownBy_setCell _ (w.heap.size + 1) 2 (.slice A2 n2 c2))).trans (grownBy_setCell _ (w.heap.size + 1) 3 (.int .i64 n))).trans (grownBy_setCell _ (w.heap.size + 1) 4 (.int .i64 t))
  refine bodyPost_ret (results_TB rfl rfl (((((HY0.out.set 0 (.slice A n c)).set 1 (.slice A1 n1 c1)).set 2 (.slice A2 n2 c2)).set 3 (.int .i64 n)).set 4 (.int .i64 t)) rfl rfl) rfl ⟨rfl, ?_⟩
  exact below_grown HB0.out hg HB0.out.size (fun g e => by injection e with e; omega)

set_option maxRecDepth 100000 in
set_option maxHeartbeats 2000000 in
theorem refRead_some (A : Option Addr) (n c : Nat) (zs : List Int) (A1 : Option Addr) (n1 c1 : Nat) (A2 : Option Addr) (n2 c2 : Nat) (ss : List Int) (p t : Nat) (w : World) (B : Nat) (hr : Rd w B A n zs) (hs : RdI w B A2 n2 ss) (hB : B ≤ w.heap.size) (hnc : n ≤ c) (hc : c ≤ maxLen) (hn : n ≤ 1000000) (hn2 : n2 ≤ 1000000) (hp : p < n) (ht : t < (M.szs ss).length) :
    Calls Try.prog 19 #[.agg #[.slice A n c, .slice A1 n1 c1, .slice A2 n2 c2, .int .i64 p, .int .i64 t]] w (TRead w B A n c (.slice A1 n1 c1) (.slice A2 n2 c2) zs ss p t) := by
  unfold maxLen at hc
  have HL2 := hid hs.len
  obtain ⟨w0, hw0, hb0, hx0, hy0⟩ := two_blocks w [.slice A n c, .slice A1 n1 c1, .slice A2 n2 c2, .int .i64 p, .int .i64 t]
  unfold zeroT at hw0 hy0
  have hq0 := M.pc_pos (M.szs ss) t (left := n - p) (by omega)
  have hq1 := M.pc_le (M.szs ss) t (n - p)
  have hlen := M.szs_len ss
  have hpc : M.pc (M.szs ss) t (n - p) = min (M.clip ((M.szs ss).getD t 0)) (n - p) := rfl
  unfold TRead
  obtain ⟨b, off, rfl, hbB, _⟩ := hr.2.2 (by omega)
  have HR := hid (hr.piece p (M.pc (M.szs ss) t (n - p)) (by omega))
  have hk : ∀ q : Addr, q.block < B → w0.cell? q = w.cell? q := fun q hq => hb0.cell (Nat.lt_of_lt_of_le hq hB)
  have HKB := hid hk
  have hleft : (n : Int) - (p : Int) = ((n - p : Nat) : Int) := by omega
  have hle0 : (((n - p : Nat) : Int) == 0) = false := by simp; omega
  have k0 := hx0.cell (i := 0) rfl
  have k1 := hx0.cell (i := 1) rfl
  have k2 := hx0.cell (i := 2) rfl
  have k3 := hx0.cell (i := 3) rfl
  have k4 := hx0.cell (i := 4) rfl
  have g3 := hx0.frozen 3
  have g4 := hx0.frozen 4
  have l0 := hy0.cell (i := 0) rfl
  have l1 := hy0.cell (i := 1) rfl
  have l2 := hy0.cell (i := 2) rfl
  have l3 := hy0.cell (i := 3) rfl
  have l4 := hy0.cell (i := 4) rfl
  have f0 := hy0.frozen 0
  have f1 := hy0.frozen 1
  have f2 := hy0.frozen 2
  have f3 := hy0.frozen 3
  have f4 := hy0.frozen 4
  have HB0 := hid hb0
  have HX0 := hid hx0
  have HY0 := hid hy0
  clear hr hb0 hx0 hy0
  by_cases h0 : n2 = 0
  · have hss : ss = [] := List.eq_nil_of_length_eq_zero (by rw [HL2.out, h0])
    subst h0
    have ht0 : t = 0 := by rw [hss] at ht; simp [M.szs] at ht; exact ht
    have hmn : min (512 : Int) ((n - p : Nat) : Int) = (M.pc (M.szs ss) t (n - p) : Nat) := by
      rw [hpc, hss, ht0]
      show min (512 : Int) ((n - p : Nat) : Int) = ((min (M.clip 512) (n - p) : Nat) : Int)
      rw [show M.clip 512 = 512 from by decide]
      omega
    have ht' : (t + 1) % (M.szs ss).length = 0 := by rw [hss]; simp [M.szs]; omega
    rw [ht']
    generalize M.pc (M.szs ss) t (n - p) = q at *
    subst ht0
    clear hs hss ht hlen hpc ht'
    generalize n - p = lf at *
    have hpq : ((p : Int) + (q : Int)) = ((p + q : Nat) : Int) := by omega
    have hrq : p + q - p = q := by omega
    have hpr : p ≤ p + q := by omega
    have hrc : p + q ≤ c := by omega
    have hcp : ¬ c = p := by omega
    generalize p + q = r at *
    go_enter Try.func19, Try.ntmps19
    go_wp2
    obtain ⟨W1, hW1, hB1, hY1⟩ := two_more w [.slice (some ⟨b, off, none⟩) n c, .slice A1 n1 c1, .slice A2 0 c2, .int .i64 r, .int .i64 0] [.slice (some ⟨b, off, none⟩) n c, .slice A1 n1 c1, .slice A2 0 c2, .int .i64 r, .int .i64 0]
    rw [hW1]
    refine bodyPost_ret (results_TB rfl rfl hY1 rfl rfl) rfl ⟨_, _, rfl, ?_, hB1⟩
    exact HR.out.keep (w' := W1) fun q hq => hB1.cell (Nat.lt_of_lt_of_le hq hB)
  · have hss : M.szs ss = ss := by unfold M.szs; rw [if_neg (fun e => h0 (by rw [← HL2.out, e]; rfl))]
    rw [hss] at ht hpc
    rw [hss]
    rw [HL2.out] at ht
    obtain ⟨b2, off2, z, rfl, hb2, hz0, hz1, hzt, hcz⟩ := hs.at_ ht
    have hcz0 := (hk ⟨b2, off2 + t, none⟩ hb2).trans hcz
    have hd : ss.getD t 0 = z := by rw [List.getD_eq_getElem?_getD, hzt]; rfl
    have hclip : max 1 (min z 4096) = (M.clip (ss.getD t 0) : Nat) := by rw [hd]; exact M.clip_int' z
    rw [hss] at HR hq0 hq1
    have hmn : min ((M.clip (ss.getD t 0) : Nat) : Int) ((n - p : Nat) : Int) = (M.pc ss t (n - p) : Nat) := by rw [hpc]; omega
    have hn2p : (0 : Int) < (n2 : Int) := by omega
    have hrem : ((t : Int) + 1).tmod (n2 : Int) = (((t + 1) % n2 : Nat) : Int) := mod_nat t n2
    have hrem2 : ((t : Int) + 1) % (n2 : Int) = (((t + 1) % n2 : Nat) : Int) := by rw [Int.natCast_emod]; rfl
    have hnz : ((n2 : Int) == 0) = false := by simp; omega
    rw [HL2.out]
    have htl : t ≤ 1000000 := by omega
    have hcl := (M.clip_pos (ss.getD t 0)).2
    clear hs hss hlen hpc hd hzt hk
    generalize M.pc ss t (n - p) = q at *
    generalize M.clip (ss.getD t 0) = cl at *
    generalize (t + 1) % n2 = t' at *
    generalize n - p = lf at *
    have hpq : ((p : Int) + (q : Int)) = ((p + q : Nat) : Int) := by omega
    have hrq : p + q - p = q := by omega
    have hpr : p ≤ p + q := by omega
    have hrc : p + q ≤ c := by omega
    have hcp : ¬ c = p := by omega
    generalize p + q = r at *
    go_enter Try.func19, Try.ntmps19
    go_wp2
    have hy1 := ((((((HY0.out.setOther (a := ⟨w.heap.size, 4, none⟩) (by show w.heap.size + 1 ≠ w.heap.size; omega) (.int .i64 t')).setOther (a := ⟨w.heap.size, 3, none⟩) (by show w.heap.size + 1 ≠ w.heap.size; omega) (.int .i64 r)).set 0 (.slice (some ⟨b, off, none⟩) n c)).set 1 (.slice A1 n1 c1)).set 2 (.slice (some ⟨b2, off2, none⟩) n2 c2)).set 3 (.int .i64 r)).set 4 (.int .i64 t')
    have hb1 := ((((((HB0.out.setCell (p := ⟨w.heap.size, 4, none⟩) (Nat.le_refl _) (.int .i64 t')).setCell (p := ⟨w.heap.size, 3, none⟩) (Nat.le_refl _) (.int .i64 r)).setCell (p := ⟨w.heap.size + 1, 0, none⟩) (Nat.le_succ _) (.slice (some ⟨b, off, none⟩) n c)).setCell (p := ⟨w.heap.size + 1, 1, none⟩) (Nat.le_succ _) (.slice A1 n1 c1)).setCell (p := ⟨w.heap.size + 1, 2, none⟩) (Nat.le_succ _) (.slice (some ⟨b2, off2, none⟩) n2 c2)).setCell (p := ⟨w.heap.size + 1, 3, none⟩) (Nat.le_succ _) (.int .i64 r)).setCell (p := ⟨w.heap.size + 1, 4, none⟩) (Nat.le_succ _) (.int .i64 t')
    refine bodyPost_ret (results_TB rfl rfl hy1 rfl rfl) rfl ⟨_, _, rfl, ?_, hb1⟩
    exact HR.out.keep fun q hq => hb1.cell (Nat.lt_of_lt_of_le hq hB)

theorem four_below (w : World) (vs us : List Value) : Below w.heap.size w ((((w.alloc (.cells vs.toArray 41)).alloc (.cells vs.toArray 41)).alloc (.cells us.toArray 27)).alloc (.cells us.toArray 27)) :=
  ((((Below.refl _ _).alloc (Nat.le_refl _) _).alloc (by simp) _).alloc (by simp; omega) _).alloc (by simp; omega) _
theorem four_T (w : World) (vs us : List Value) : Blk ((((w.alloc (.cells vs.toArray 41)).alloc (.cells vs.toArray 41)).alloc (.cells us.toArray 27)).alloc (.cells us.toArray 27)) (w.heap.size + 1) 41 vs := by
  have := Blk.new (w.alloc (.cells vs.toArray 41)) 41 vs
  rw [World.size_alloc] at this
  exact (this.alloc _).alloc _
theorem four_I (w : World) (vs us : List Value) : Blk ((((w.alloc (.cells vs.toArray 41)).alloc (.cells vs.toArray 41)).alloc (.cells us.toArray 27)).alloc (.cells us.toArray 27)) (w.heap.size + 1 + 1) 27 us := by
  have := Blk.new ((w.alloc (.cells vs.toArray 41)).alloc (.cells vs.toArray 41)) 27 us
  rw [World.size_alloc, World.size_alloc] at this
  exact this.alloc _
theorem cutA_zero (A : Option Addr) (c : Nat) : cutA A c 0 = A := by
  unfold cutA
  split
  · rfl
  · cases A <;> simp [Addr.add]
theorem results_TG {f : Func} (hf : f.results = #[ResultVar.cell 2 41, ResultVar.cell 3 27]) {tmps : Array Value} {g g' : Nat} {a b c d e x y : Value} {w : World} (hk : tmps.getD 2 undef = .pointer (some ⟨g, 0, none⟩)) (hb : Blk w g 41 [a, b, c, d, e])
    (hk' : tmps.getD 3 undef = .pointer (some ⟨g', 0, none⟩)) (hb' : Blk w g' 27 [x, y]) :
    (results f tmps).run Try.prog w = .ok (.tuple #[.agg #[a, b, c, d, e], .agg #[x, y]]) w := by
  simp only [results, hf]
  rw [Array.getD_eq_getD_getElem?] at hk hk'
  have c0 := hb.cell (i := 0) rfl
  have c1 := hb.cell (i := 1) rfl
  have c2 := hb.cell (i := 2) rfl
  have c3 := hb.cell (i := 3) rfl
  have c4 := hb.cell (i := 4) rfl
  have d0 := hb'.cell (i := 0) rfl
  have d1 := hb'.cell (i := 1) rfl
  simp [go_sem, hk, hk', c0, c1, c2, c3, c4, d0, d1]

set_option maxRecDepth 100000 in
set_option maxHeartbeats 2000000 in
/-- The document's Gather: its image. -/
theorem refGather_any (A : Option Addr) (n c : Nat) (zs : List Int) (A1 : Option Addr) (n1 c1 : Nat) (A2 : Option Addr) (n2 c2 : Nat) (p t : Nat) (w : World) (B : Nat) (hr : Rd w B A n zs) (hnc : n ≤ c) (hc : c ≤ maxLen) (hn : n ≤ 1000000) (hp : p ≤ n) (ht : t ≤ 1000000) :
    Calls Try.prog 21 #[.agg #[.slice A n c, .slice A1 n1 c1, .slice A2 n2 c2, .int .i64 p, .int .i64 t]] w fun e w' =>
      e = .returned (.tuple #[.agg #[.slice A n c, .slice A1 n1 c1, .slice A2 n2 c2, .int .i64 n, .int .i64 t], .agg #[.slice (cutA A c p) (n - p) (c - p), if p = 0 then .slice A1 n1 c1 else .slice none 0 0]]) ∧ Below w.heap.size w w' := by
  unfold maxLen at hc
  by_cases h0 : p = 0
  · subst h0
    rw [if_pos rfl]
    rw [cutA_zero, Nat.sub_zero, Nat.sub_zero]
    go_enter Try.func21, Try.ntmps21
    go_wp2_with fail
    go_region
    all_goals
      go_wp2
      refine bodyPost_ret (results_TG rfl rfl (four_T w [.slice A n c, .slice A1 n1 c1, .slice A2 n2 c2, .int .i64 n, .int .i64 t] [.slice A n c, .slice A1 n1 c1]).drew rfl (four_I w [.slice A n c, .slice A1 n1 c1, .slice A2 n2 c2, .int .i64 n, .int .i64 t] [.slice A n c, .slice A1 n1 c1]).drew) rfl ⟨rfl, below_drew' (four_below w [.slice A n c, .slice A1 n1 c1, .slice A2 n2 c2, .int .i64 n, .int .i64 t] [.slice A n c, .slice A1 n1 c1])⟩
  · rw [if_neg h0]
    have hpz : ((p : Int) == 0) = false := by simp; omega
    rcases A with _ | a
    · have hn0 : n = 0 := by
        rcases Nat.eq_zero_or_pos n with h | h
        · exact h
        · obtain ⟨b, off, e, _⟩ := hr.2.2 h
          cases e
      exact absurd (Nat.le_zero.1 (hn0 ▸ hp)) h0
    · clear hr
      by_cases hcp : c = p
      · have e : cutA (some a) c p = some a := by unfold cutA; rw [if_pos hcp]
        rw [e]
        clear e
        subst hcp
        have hz : n - c = 0 := by omega
        rw [hz, Nat.sub_self]
        clear hz
        go_enter Try.func21, Try.ntmps21
        go_wp2_with fail
        go_region
        all_goals
          go_wp2
          refine bodyPost_ret (results_TG rfl rfl (four_T w [.slice (some a) n c, .slice A1 n1 c1, .slice A2 n2 c2, .int .i64 n, .int .i64 t] [.slice (some a) 0 0, .slice none 0 0]).drew rfl (four_I w [.slice (some a) n c, .slice A1 n1 c1, .slice A2 n2 c2, .int .i64 n, .int .i64 t] [.slice (some a) 0 0, .slice none 0 0]).drew) rfl ⟨rfl, below_drew' (four_below w [.slice (some a) n c, .slice A1 n1 c1, .slice A2 n2 c2, .int .i64 n, .int .i64 t] [.slice (some a) 0 0, .slice none 0 0])⟩
      · have e : cutA (some a) c p = some (a.add p) := by unfold cutA; rw [if_neg hcp]; rfl
        rw [e]
        clear e
        go_enter Try.func21, Try.ntmps21
        go_wp2_with fail
        go_region
        all_goals
          go_wp2
          refine bodyPost_ret (results_TG rfl rfl (four_T w [.slice (some a) n c, .slice A1 n1 c1, .slice A2 n2 c2, .int .i64 n, .int .i64 t] [.slice (some (a.add p)) (n - p) (c - p), .slice none 0 0]).drew rfl (four_I w [.slice (some a) n c, .slice A1 n1 c1, .slice A2 n2 c2, .int .i64 n, .int .i64 t] [.slice (some (a.add p)) (n - p) (c - p), .slice none 0 0]).drew) rfl ⟨rfl, below_drew' (four_below w [.slice (some a) n c, .slice A1 n1 c1, .slice A2 n2 c2, .int .i64 n, .int .i64 t] [.slice (some (a.add p)) (n - p) (c - p), .slice none 0 0])⟩
end Go.Proofs.Yteneknmbddnkaaa
