/-
  The document's reading: one line, and all.
-/
import Derived.Test.YtefkgkdocglgaaaDoorPaxParse
import Derived.RegionTactic
import Derived.ChangeAlike
import Derived.Laws.DeepStrings4
import Derived.Deep.DeepCutAuto
import Derived.Deep.CutBlock
import Derived.Tactics2
namespace Go.Proofs.YtefkgkdocglgaaaDoor
open Go.RowKit Go.Shelf

def oneV : Option (M.Rc × Nat) → Value
  | none => .tuple #[.agg #[.string ⟨#[]⟩, .string ⟨#[]⟩], .int .i64 0]
  | some (r, n) => .tuple #[.agg #[.string ⟨r.1.toArray⟩, .string ⟨r.2.toArray⟩], .int .i64 n]
def OneIs (o : Option (M.Rc × Nat)) (w : World) (e : Ending) (w' : World) : Prop := e = .returned (oneV o) ∧ Below w.heap.size w w'

theorem results_one {tmps : Array Value} {g : Nat} {s t : ByteArray} {v : Value} {w : World} (h2 : tmps.getD 2 undef = .pointer (some ⟨g, 0, none⟩)) (h3 : tmps.getD 3 undef = v) (hb : BoxR w g s t) :
    (results Tryd.f46 tmps).run Tryd.prog w = .ok (.tuple #[.agg #[.string s, .string t], v]) w := by
  simp only [results, show Tryd.f46.results = #[ResultVar.cell 2 45, ResultVar.tmp 3] from rfl]
  rw [Array.getD_eq_getD_getElem?] at h2 h3
  have c0 := hb.cell0
  have c1 := hb.cell1
  simp [go_sem, h2, h3, c0, c1]

namespace M
/-- How many digits, up to eight. -/
def lead (l : List UInt8) : Nat := ((l.take 8).takeWhile isDig).length
theorem lead_le (l : List UInt8) : lead l ≤ 8 ∧ lead l ≤ l.length := by
  unfold lead
  have := (List.takeWhile_sublist isDig (l := l.take 8)).length_le
  rw [List.length_take] at this
  omega
theorem lead_take (l : List UInt8) : (l.take 8).takeWhile isDig = l.take (lead l) := by
  unfold lead
  have := List.prefix_iff_eq_take.1 (List.takeWhile_prefix isDig (l := l.take 8))
  conv => lhs; rw [this, List.take_take]
  have h8 := (lead_le l).1
  unfold lead at h8
  rw [Nat.min_eq_left h8]
theorem all_takeWhile (p : UInt8 → Bool) : ∀ l : List UInt8, (l.takeWhile p).all p = true
  | [] => rfl
  | c :: l => by
    rw [List.takeWhile_cons]
    cases hc : p c with
    | true => simp [hc, all_takeWhile p l]
    | false => rfl
theorem lead_digs (l : List UInt8) : (l.take (lead l)).all isDig = true := by
  rw [← lead_take]
  exact all_takeWhile isDig _
theorem takeWhile_stop {p : UInt8 → Bool} {l : List UInt8} (h : (l.takeWhile p).length < l.length) : p (l[(l.takeWhile p).length]) = false := by
  induction l with
  | nil => simp at h
  | cons c l ih =>
    cases hc : p c with
    | true =>
      simp only [List.takeWhile_cons, hc, if_true, List.length_cons] at h ⊢
      simpa using ih (by omega)
    | false => simp [List.takeWhile_cons, hc]
theorem lead_stop {l : List UInt8} (h8 : lead l < 8) (hl : lead l < l.length) : isDig (l[lead l]) = false := by
  have h1 : ((l.take 8).takeWhile isDig).length < (l.take 8).length := by rw [List.length_take]; unfold lead at h8 hl; omega
  have := takeWhile_stop h1
  rw [List.getElem_take] at this
  exact this
/-- The number of a few digits. -/
theorem num_bound (D : List UInt8) : num D 0 + 1 ≤ 10 ^ D.length * (if D.all isDig = true then 1 else num D 0 + 1) := by
  by_cases h : D.all isDig = true
  · rw [if_pos h, Nat.mul_one]
    have key : ∀ n (D : List UInt8), D.length = n → D.all isDig = true → num D 0 + 1 ≤ 10 ^ D.length := by
      intro n
      induction n with
      | zero => intro D hn _; obtain rfl := List.eq_nil_of_length_eq_zero hn; simp [num]
      | succ n ih =>
        intro D hn hall
        have hne : D ≠ [] := by rintro rfl; simp at hn
        obtain ⟨E, c, rfl⟩ : ∃ E c, D = E ++ [c] := ⟨D.dropLast, D.getLast hne, (List.dropLast_concat_getLast hne).symm⟩
        rw [List.all_append, Bool.and_eq_true] at hall
        have hc : isDig c = true := by have := hall.2; simpa using this
        rw [isDig_iff] at hc
        rw [List.length_append, List.length_singleton] at hn
        have := ih E (by omega) hall.1
        rw [num_snoc, List.length_append, List.length_singleton, Nat.pow_succ]
        omega
    exact key _ D rfl h
  · rw [if_neg h]
    have : 1 ≤ 10 ^ D.length := Nat.pos_of_ne_zero (by simp)
    exact Nat.le_mul_of_pos_left _ (by omega)

theorem one_eq {b : List UInt8} {i n : Nat} {u : List UInt8} (hi : lead b = i) (hn : num (b.take i) 0 = n) (hu : ((b.take n).drop (i + 1)).dropLast = u) :
    one b = if n ≤ i ∨ b.length < n then none else if (keyOf u).length < u.length ∧ right (keyOf u, valOf u) = true ∧ line (keyOf u, valOf u) = b.take n then some ((keyOf u, valOf u), n) else none := by
  have hl : (b.take i).length = i := by rw [List.length_take]; have := (lead_le b).2; omega
  unfold one
  dsimp only
  rw [lead_take, hi, hn, hl, hu]
  rfl
theorem num_le8 {l : List UInt8} {i : Nat} (h : digs l i) (h8 : i ≤ 8) : num (l.take i) 0 ≤ 99999999 := by
  have := num_bound (l.take i)
  unfold digs at h
  rw [if_pos h, Nat.mul_one] at this
  have h2 : (l.take i).length ≤ 8 := by rw [List.length_take]; omega
  have h3 : 10 ^ (l.take i).length ≤ 10 ^ 8 := Nat.pow_le_pow_right (by decide) h2
  omega
theorem lead_of {l : List UInt8} {i : Nat} (hd : digs l i) (hi : i ≤ l.length) (h8 : i ≤ 8) (hs : i = l.length ∨ i = 8 ∨ ∃ h : i < l.length, isDig l[i] = false) : lead l = i := by
  unfold lead
  unfold digs at hd
  have hlen : (l.take i).length = i := by rw [List.length_take]; omega
  have e : l.take 8 = l.take i ++ (l.drop i).take (8 - i) := by
    conv => lhs; rw [show 8 = i + (8 - i) by omega]
    rw [List.take_add]
  rw [e]
  rcases hs with h | h | ⟨h, h2⟩
  · rw [h, List.drop_length, List.take_nil, List.append_nil, List.take_length]
    rw [h, List.take_length] at hd
    rw [takeWhile_all (List.all_eq_true.1 hd)]
  · rw [h, Nat.sub_self, List.take_zero, List.append_nil]
    rw [h] at hd hlen
    rw [takeWhile_all (List.all_eq_true.1 hd), hlen]
  · rcases Nat.lt_or_ge i 8 with h3 | h3
    · obtain ⟨m, hm⟩ : ∃ m, 8 - i = m + 1 := ⟨7 - i, by omega⟩
      rw [hm, List.drop_eq_getElem_cons h, List.take_succ_cons, takeWhile_app (List.all_eq_true.1 hd) h2, hlen]
    · obtain rfl : i = 8 := by omega
      rw [Nat.sub_self, List.take_zero, List.append_nil, takeWhile_all (List.all_eq_true.1 hd), hlen]
end M

namespace M
theorem keyOf_found {u : List UInt8} {k : Nat} (hk : k < u.length) (hall : (u.take k).all (fun c => !(c == 61)) = true) (h61 : u[k] = 61) : keyOf u = u.take k := by
  have e : u = u.take k ++ 61 :: u.drop (k + 1) := by
    conv => lhs; rw [← List.take_append_drop k u, List.drop_eq_getElem_cons hk, h61]
  unfold keyOf
  conv => lhs; rw [e]
  exact takeWhile_app (List.all_eq_true.1 hall) (by decide)
theorem keyOf_all {u : List UInt8} (hall : u.all (fun c => !(c == 61)) = true) : keyOf u = u := takeWhile_all (List.all_eq_true.1 hall)
end M
theorem slice_front (w : World) (a : Option Addr) (len cap h : Nat) (h2 : h ≤ cap) :
    (Instr.slice 22 (.slice a len cap) none (some (.int .i64 h)) none).run Tryd.prog w = .ok (.slice a h cap) w := by
  have ht : Tryd.prog.underlying 22 = some (.slice (Tryd.prog.elem 22)) := by rw [elemB]; exact Tryd.underlying22
  rw [run_slice_h w 22 a len cap ht .i64 h (by omega) (by omega), elemB]
  have hs : (sizeOf 5).run Tryd.prog w = .ok 1 w := by
    obtain ⟨i, hi, hz⟩ := Option.map_eq_some_iff.1 cellsB
    simp [sizeOf, typeInfo, hi, hz]
  rw [hs]
  have hadd : ∀ x : Addr, x.add 0 = x := fun x => by simp [Addr.add]
  have hm : a.map (·.add 0) = a := by cases a <;> simp [hadd]
  simp [Result.andThen, sliced, hm]
theorem tl_extract (s : ByteArray) (a b : Nat) : tl (s.extract a b) = (tl s |>.drop a).take (b - a) := by
  unfold tl
  simp [ByteArray.data_extract]

set_option maxRecDepth 100000 in
set_option maxHeartbeats 8000000 in
theorem refOne_any (A : Option Addr) (c : Nat) (l : List UInt8) (hl : l.length ≤ 1048576) (hpos : 0 < l.length) (hc : l.length ≤ c) (B : Nat) (w : World) (hB : B ≤ w.heap.size) (ht : TB B w) (h : Rd w w.heap.size A l.length (ints l)) :
    Calls Tryd.prog 46 #[.slice A l.length c] w (OneIs (M.one l) w) := by
  have ht' : TB w.heap.size w := fun w' hb => ht w' (hb.mono hB)
  have HT := Lib.hid ht'
  clear ht ht'
  have hbx0 := BoxR.new w ⟨#[]⟩ ⟨#[]⟩
  have hb0 : Below w.heap.size w (w.alloc (.cells #[.string ⟨#[]⟩, .string ⟨#[]⟩] 45)) := (Below.refl _ w).alloc (Nat.le_refl _) _
  obtain ⟨b, off, rfl, hbb, hcell⟩ := h.2.2 hpos
  have HCELL := Lib.hid hcell
  have HR := Lib.hid h
  clear hcell h
  go_enter Tryd.func46, Tryd.ntmps46
  go_upto_block 0 with fail
  go_cut [4, 5] (fun s4 s5 wx => wx = w.alloc (.cells #[.string ⟨#[]⟩, .string ⟨#[]⟩] 45) ∧ ∃ n i : Nat, s4 = .int .i64 n ∧ s5 = .int .i64 i ∧ Hid (M.lead l = i) ∧ Hid (M.num (l.take i) 0 = n) ∧ n ≤ 99999999 ∧ i ≤ 8 ∧ i ≤ l.length)
  case first =>
    go_wp2
    go_loop [4, 5] (fun s4 s5 => ∃ n i : Nat, s4 = .int .i64 n ∧ s5 = .int .i64 i ∧ Hid (M.digs l i) ∧ Hid (M.num (l.take i) 0 = n) ∧ n ≤ 99999999 ∧ i ≤ 8 ∧ i ≤ l.length) (fun _ s5 => l.length - (intOf s5).toNat)
    case atStart => exact ⟨0, 0, rfl, rfl, Lib.hid rfl, Lib.hid rfl, by omega, by omega, by omega⟩
    case round =>
      obtain ⟨n, i, rfl, rfl, hdg, hnum, hn9, hi8, hil⟩ := hrel
      by_cases hlt : i < l.length
      · have hck := HCELL.out i _ (ints_at hlt)
        have hb256 : (l[i]).toNat < 256 := UInt8.toNat_lt _
        by_cases h8 : i < 8
        · obtain ⟨z, hz⟩ : ∃ z, (l[i]).toNat = z := ⟨_, rfl⟩
          by_cases hdig : M.isDig l[i] = true
          · have HD := Lib.hid (digs_succ hlt hdg.out hdig)
            have hns := num_succ hlt
            rw [hnum.out, hz] at hns
            have hn9' : 10 * n + (z - 48) ≤ 99999999 := by rw [← hns]; exact M.num_le8 HD.out (by omega)
            have HN := Lib.hid hns
            rw [M.isDig_iff, hz] at hdig
            rw [hz] at hck hb256
            obtain ⟨g1, g2⟩ := hdig
            have n1 : decide ((z : Int) ≥ 48) = true := by rw [decide_eq_true_eq]; omega
            have n2 : decide ((z : Int) ≤ 57) = true := by rw [decide_eq_true_eq]; omega
            clear hz hns
            obtain ⟨i', hi'⟩ : ∃ i', i' = i := ⟨_, rfl⟩
            have HD' : Hid (M.digs l (i' + 1)) := by rw [hi']; exact HD
            have HN' : Hid (M.num (l.take (i' + 1)) 0 = 10 * n + (z - 48)) := by rw [hi']; exact HN
            have HI' := Lib.hid hi'
            clear hi' HD HN
            by_cases hk0 : i = 0
            case' pos =>
              subst hk0
              simp only [Nat.add_zero] at hck
            case' neg =>
              have hk1 : 0 < i := by omega
              clear hk0
            all_goals
              go_wp2
              go_round
              case rel =>
                refine ⟨10 * n + (z - 48), i' + 1, by congr 1; omega, ?_, HD', HN', hn9', by have := HI'.out; omega, by have := HI'.out; omega⟩
                rw [HI'.out]
                first | rfl | go_num
              case measure => simp [intOf]; omega
          · have hnd : M.isDig l[i] = false := by simpa using hdig
            have HL := Lib.hid (M.lead_of hdg.out hil hi8 (.inr (.inr ⟨hlt, hnd⟩)))
            rw [M.isDig_iff, hz] at hdig
            rw [hz] at hck hb256
            clear hz hnd
            by_cases hlo : z < 48
            case' pos =>
              have n1 : decide ((z : Int) ≥ 48) = false := by rw [decide_eq_false_iff_not]; omega
            case' neg =>
              have n1 : decide ((z : Int) ≥ 48) = true := by rw [decide_eq_true_eq]; omega
              have n2 : decide ((z : Int) ≤ 57) = false := by rw [decide_eq_false_iff_not]; omega
            all_goals
              clear hdig
              obtain ⟨i', hi'⟩ : ∃ i', i' = i := ⟨_, rfl⟩
              have HI' := Lib.hid hi'
              clear hi'
              by_cases hk0 : i = 0
              case' pos =>
                subst hk0
                simp only [Nat.add_zero] at hck
              case' neg =>
                have hk1 : 0 < i := by omega
                clear hk0
              all_goals
                go_wp2
                go_meet
                exact ⟨rfl, n, _, rfl, rfl, HL, hnum, hn9, hi8, hil⟩
        · have HL := Lib.hid (M.lead_of hdg.out hil hi8 (.inr (.inl (by omega))))
          have g8 : decide ((i : Int) < 8) = false := by rw [decide_eq_false_iff_not]; omega
          clear hck
          go_wp2
          go_meet
          exact ⟨rfl, n, _, rfl, rfl, HL, hnum, hn9, hi8, hil⟩
      · have HL := Lib.hid (M.lead_of hdg.out hil hi8 (.inl (by omega)))
        go_wp2
        go_meet
        exact ⟨rfl, n, _, rfl, rfl, HL, hnum, hn9, hi8, hil⟩
  case rest =>
    obtain ⟨rfl, n, i, rfl, rfl, hlead, hnum, hn9, hi8, hil⟩ := hcut
    obtain ⟨u, hu⟩ : ∃ u, ((l.take n).drop (i + 1)).dropLast = u := ⟨_, rfl⟩
    have hreq := M.one_eq hlead.out hnum.out hu
    by_cases hbad : n ≤ i ∨ l.length < n
    · rw [if_pos hbad] at hreq
      have HE := Lib.hid hreq
      have c0 := hbx0.cell0
      have c1 := hbx0.cell1
      have f0 := hbx0.frozen 0
      have f1 := hbx0.frozen 1
      clear hreq hu
      by_cases hni : n ≤ i
      · clear hbad
        go_wp2
        refine bodyPost_ret (results_one rfl rfl hbx0) rfl ⟨by rw [HE.out]; rfl, hb0⟩
      · have hln : l.length < n := by omega
        clear hbad
        go_wp2
        refine bodyPost_ret (results_one rfl rfl hbx0) rfl ⟨by rw [HE.out]; rfl, hb0⟩
    · rw [if_neg hbad] at hreq
      have hni : i < n := by omega
      have hln : n ≤ l.length := by omega
      have hsl := fun W' => slice_front W' (some ⟨b, off, none⟩) l.length c n (by omega)
      have hfr := (HR.out.alloc (Nat.le_refl _) (.cells #[.string ⟨#[]⟩, .string ⟨#[]⟩] 45)).front hln
      rw [ints_take] at hfr
      have htx := run_text hfr c
      have hsz : (l.take n).length = n := by rw [List.length_take]; omega
      obtain ⟨s, hs⟩ : ∃ s : ByteArray, (⟨(l.take n).toArray⟩ : ByteArray) = s := ⟨_, rfl⟩
      have hst : tl s = l.take n := by rw [← hs]; rfl
      have hss : s.size = n := by rw [← tl_len, hst, hsz]
      rw [hs] at htx
      have hs1 : s.size ≤ n := by omega
      have hs2 : n ≤ s.size := by omega
      have hul : u.length = n - (i + 2) := by rw [← hu, List.length_dropLast, List.length_drop, hsz]; omega
      have hul1 : u.length ≤ n - (i + 2) := by omega
      have hul2 : n - (i + 2) ≤ u.length := by omega
      have hui : ∀ (k : Nat) (hk : i + 1 ≤ k) (hk2 : k - (i + 1) < u.length) (hks : k < s.size), u[k - (i + 1)] = s[k] := by
        intro k hk hk2 hks
        have e2 : s[k]'hks = (tl s)[k]'hks := rfl
        rw [e2]
        subst hu
        rw [List.getElem_dropLast, List.getElem_drop]
        have e : i + 1 + (k - (i + 1)) = k := by omega
        simp only [e, hst]
      have HST := Lib.hid hst
      have HREQ := Lib.hid hreq
      have HUI := Lib.hid hui
      have HU := Lib.hid hu
      clear hbad hfr hs hst hss hul hui hu hsz hreq
      go_wp2
      go_loop [7] (fun s7 => ∃ k : Nat, s7 = .int .i64 k ∧ i + 1 ≤ k ∧ k ≤ n ∧ k - (i + 1) ≤ u.length ∧ Hid ((u.take (k - (i + 1))).all (fun c => !(c == 61)) = true)) (fun s7 => n - (intOf s7).toNat)
      case atStart => exact ⟨i + 1, by go_num, Nat.le_refl _, by omega, by omega, Lib.hid (by simp)⟩
      case round =>
        obtain ⟨k, rfl, hk1, hkn, hku, hall⟩ := hrel
        by_cases hlt : k < n - 1
        · have hks : k < s.size := by omega
          have hku2 : k - (i + 1) < u.length := by omega
          have hue := HUI.out k hk1 hku2 hks
          have hb256 : (s[k]).toNat < 256 := UInt8.toNat_lt _
          have hlt2 : (k : Int) < (n : Int) - 1 := by omega
          by_cases h61 : s[k] = 61
          · have e61 : (((s[k]).toNat : Int) == 61) = true := by rw [h61]; rfl
            have hkey := M.keyOf_found hku2 hall.out (by rw [hue, h61])
            obtain ⟨K, hK⟩ : ∃ K, s.extract (i + 1) k = K := ⟨_, rfl⟩
            obtain ⟨V, hV⟩ : ∃ V, s.extract (k + 1) (n - 1) = V := ⟨_, rfl⟩
            have hxl : ((l.take n).drop (i + 1)).length = n - (i + 1) := by rw [List.length_drop, List.length_take]; omega
            have hKu : tl K = M.keyOf u := by
              rw [hkey, ← hK, tl_extract, HST.out, ← HU.out, List.dropLast_eq_take, List.take_take, hxl, Nat.min_eq_left (by omega)]
            have hkl : (M.keyOf u).length = k - (i + 1) := by rw [hkey, List.length_take]; omega
            have hVu : tl V = M.valOf u := by
              unfold M.valOf
              rw [hkl, ← hV, tl_extract, HST.out, ← HU.out, List.dropLast_eq_take, hxl]
              conv => rhs; rw [List.drop_take, List.drop_drop]
              congr 1
              · omega
              · congr 1; omega
            have hrcc : rc (K, V) = (M.keyOf u, M.valOf u) := by unfold rc; rw [hKu, hVu]
            have hreq := HREQ.out
            rw [← hrcc, hkl, ← HST.out] at hreq
            have hsz : K.size + V.size ≤ 10000000 := by
              have h1 : K.size = (tl K).length := rfl
              have h2 : V.size = (tl V).length := rfl
              rw [h1, h2, hKu, hVu, hkl]
              unfold M.valOf
              rw [List.length_drop]
              omega
            have C1 := fun W => refRight_any' K V hsz W
            have C2 := fun W h2 h3 => refLine_any (K, V) hsz w.heap.size W h2 h3
            have HREQ2 := Lib.hid hreq
            obtain ⟨r1, hr1⟩ : ∃ r1, M.right (rc (K, V)) = r1 := ⟨_, rfl⟩
            rw [hr1] at C1
            have HR1 := Lib.hid hr1
            clear hr1
            have HK := Lib.hid hK
            have HV := Lib.hid hV
            have x1 : (i : Int) + 1 ≤ (k : Int) := by omega
            have x2 : (k : Int) ≤ (s.size : Int) := by omega
            have x3 : (k : Int) + 1 ≤ (n : Int) - 1 := by omega
            have x4 : (n : Int) - 1 ≤ (s.size : Int) := by omega
            have x5 : ((i : Int) + 1).toNat = i + 1 := by omega
            have x6 : ((k : Int) + 1).toNat = k + 1 := by omega
            have x7 : ((n : Int) - 1).toNat = n - 1 := by omega
            have HC1 := Lib.hid C1
            have HC2 := Lib.hid C2
            have hs1' : ∀ W' : World, (Instr.slice 9 (.string s) (some (.int .i64 ((i : Int) + 1))) (some (.int .i64 (k : Int))) none).run Tryd.prog W' = .ok (.string K) W' := fun W' => by
              rw [run_slice_string_if (w := W') 9 s .i64 .i64 _ _ Tryd.underlying9, if_pos ⟨by omega, by omega⟩, if_pos ⟨by omega, by omega⟩, x5, Int.toNat_natCast, hK]
            have hs2' : ∀ W' : World, (Instr.slice 9 (.string s) (some (.int .i64 ((k : Int) + 1))) (some (.int .i64 ((n : Int) - 1))) none).run Tryd.prog W' = .ok (.string V) W' := fun W' => by
              rw [run_slice_string_if (w := W') 9 s .i64 .i64 _ _ Tryd.underlying9, if_pos ⟨by omega, by omega⟩, if_pos ⟨by omega, by omega⟩, x6, x7, hV]
            clear C1 C2 x5 x6 x7 hreq hK hV hrcc hVu hkl hKu hxl hkey hue h61
            go_wp2_with fail
            go_region
            all_goals
              go_wp2_with fail
              refine (HC1.out _).mono ?_
              rintro e w2 ⟨rfl, hb2⟩
              have b2 : Below w.heap.size w w2 := (below_drew' (hb0.alloc (by simp) _)).trans (hb2.mono (by simp; omega))
              have bx2 : BoxR w2 w.heap.size ⟨#[]⟩ ⟨#[]⟩ := (hbx0.alloc _).drew.below hb2 (by simp; omega)
              have by2 : BoxR w2 (w.heap.size + 1) K V := by
                have := (BoxR.new (w.alloc (.cells #[.string ⟨#[]⟩, .string ⟨#[]⟩] 45)) K V).drew.below hb2 (by simp)
                rwa [World.size_alloc] at this
              have d0 := by2.cell0
              have d1 := by2.cell1
              have c0 := bx2.cell0
              have c1 := bx2.cell1
              have f0 := bx2.frozen 0
              have f1 := bx2.frozen 1
              clear hb2
              cases r1 with
              | false =>
                have HE := Lib.hid (HREQ2.out.trans (if_neg (by rw [HR1.out]; simp)))
                go_wp2
                refine bodyPost_ret (results_one rfl rfl (bx2.set ⟨#[]⟩ ⟨#[]⟩)) rfl ⟨by rw [HE.out]; rfl, below_set2 b2 (Nat.le_refl _) _ _⟩
              | true =>
                clear c0 c1 f0 f1
                go_wp2_with fail
                refine (HC2.out _ b2.size (HT.out.on b2)).mono ?_
                rintro e w3 ⟨x, rfl, hx, hxs, hb3⟩
                have b3 := b2.trans (hb3.mono b2.size)
                have bx3 := bx2.below hb3 bx2.lt
                have by3 := by2.below hb3 by2.lt
                clear d0 d1 hb3 b2
                have d0 := by3.cell0
                have d1 := by3.cell1
                have c0 := bx3.cell0
                have c1 := bx3.cell1
                have f0 := bx3.frozen 0
                have f1 := bx3.frozen 1
                by_cases hq : x = s
                · have HE := Lib.hid (HREQ2.out.trans (if_pos ⟨hku2, HR1.out, by rw [← hx, hq]⟩))
                  have e1 : (x.toList == s.toList) = true := by rw [hq]; simp
                  clear hx hxs hq
                  go_wp2
                  refine bodyPost_ret (results_one rfl rfl (bx3.set K V)) rfl ⟨by rw [HE.out]; rfl, below_set2 b3 (Nat.le_refl _) _ _⟩
                · have HE := Lib.hid (HREQ2.out.trans (if_neg (fun hh => hq (tl_inj (hx.trans hh.2.2)))))
                  have e1 : (x.toList == s.toList) = false := by
                    rw [beq_eq_false_iff_ne, tl_eq, tl_eq]
                    exact fun e => hq (tl_inj e)
                  clear hx hxs hq
                  go_wp2
                  refine bodyPost_ret (results_one rfl rfl (bx3.set ⟨#[]⟩ ⟨#[]⟩)) rfl ⟨by rw [HE.out]; rfl, below_set2 b3 (Nat.le_refl _) _ _⟩
          · have HA := Lib.hid (all_take_succ (p := fun c : UInt8 => !(c == 61)) hku2 hall.out (by rw [hue]; simpa using h61))
            have hne : (((s[k]).toNat : Int) == 61) = false := by
              simp only [beq_eq_false_iff_ne, ne_eq]
              intro e
              exact h61 (UInt8.toNat_inj.1 (by show (s[k]).toNat = 61; omega))
            have hsub : k + 1 - (i + 1) = k - (i + 1) + 1 := by omega
            have HSUB := Lib.hid hsub
            clear hue h61 hsub
            go_wp2
            refine ⟨⟨k + 1, by go_num, by omega, by omega, by omega, ?_⟩, by simp [intOf]; omega⟩
            rw [HSUB.out]
            exact HA
        · have hge : (n : Int) - 1 ≤ (k : Int) := by omega
          have hueq : u.take (k - (i + 1)) = u := List.take_of_length_le (by omega)
          have hall2 := hall.out
          rw [hueq] at hall2
          have hreq := HREQ.out
          rw [M.keyOf_all hall2, if_neg (by omega)] at hreq
          have HE := Lib.hid hreq
          clear hueq hall2 hreq
          go_wp2
          refine bodyPost_ret (results_one rfl rfl hbx0) rfl ⟨by rw [HE.out]; rfl, hb0⟩
end Go.Proofs.YtefkgkdocglgaaaDoor
