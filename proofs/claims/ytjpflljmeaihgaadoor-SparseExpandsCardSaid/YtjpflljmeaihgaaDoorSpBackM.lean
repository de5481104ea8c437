/-
  What was packed is expanded: plain mathematics.
-/
import Derived.Test.YtjpflljmeaihgaaDoorSpPack
namespace Go.Proofs.YtjpflljmeaihgaaDoor
namespace M
/-- Noughts from e up to f. -/
def Void (b : List Int) (e f : Nat) : Prop := ∀ i, e ≤ i → i < f → ∀ x, b[i]? = some x → x = 0
theorem void_drop {b : List Int} {e f : Nat} (h : Void b e f) (hef : e ≤ f) (hf : f ≤ b.length) : b.drop e = zeros (f - e) ++ b.drop f := by
  apply List.ext_getElem?
  intro i
  rw [List.getElem?_drop, List.getElem?_append, zeros_len]
  split
  · rename_i hi
    unfold zeros
    rw [List.getElem?_replicate, if_pos hi]
    have hl : e + i < b.length := by omega
    rw [List.getElem?_eq_getElem hl]
    exact congrArg some (h (e + i) (by omega) (by omega) _ (List.getElem?_eq_getElem hl))
  · rename_i hi
    rw [List.getElem?_drop]
    congr 1
    omega
theorem void_end {b : List Int} {e f : Nat} (h : Void b e f) (he : e ≤ b.length) (hf : b.length ≤ f) : b.drop e = zeros (b.length - e) := by
  have := void_drop (b := b) (e := e) (f := b.length) (fun i h1 h2 => h i h1 (by omega)) he (Nat.le_refl _)
  rw [this, List.drop_length, List.append_nil]
theorem void_blank {b : List Int} {a : Nat} (h : blank ((b.drop a).take 512) = true) : Void b a (a + 512) := by
  intro i h1 h2 x hx
  unfold blank at h
  rw [List.all_eq_true] at h
  have hm : x ∈ (b.drop a).take 512 := by
    apply List.mem_of_getElem? (i := i - a)
    rw [List.getElem?_take, if_pos (by omega), List.getElem?_drop, show a + (i - a) = i by omega]
    exact hx
  simpa using h x hm
theorem Void.join {b : List Int} {e f g : Nat} (h : Void b e f) (k : Void b f g) : Void b e g := fun i h1 h2 x hx => by
  rcases Nat.lt_or_ge i f with h3 | h3
  · exact h i h1 h3 x hx
  · exact k i h3 h2 x hx
theorem had_cons (b : List Int) (p : Pt) (l : List Pt) : had b (p :: l) = (b.drop p.1.toNat).take p.2.toNat ++ had b l := by simp [had]
theorem piece_len {b : List Int} {f t : Nat} (h : f ≤ t) (ht : t ≤ b.length) : ((b.drop f).take (t - f)).length = t - f := by
  rw [List.length_take, List.length_drop]; omega
/-- One part more, up to t. -/
theorem part_more {b : List Int} {e f t s : Nat} {rest : List Pt} (hef : e ≤ f) (hft : f < t) (ht : t ≤ b.length) (hv : Void b e f)
    (ih : ∃ ef, walk b.length t ((s + (t - f) : Nat) : Int) rest = some (ef, ((s + (t - f) : Nat) : Int) + (had b rest).length) ∧ fileAt b.length t rest (had b rest) = b.drop t) :
    ∃ ef, walk b.length e s (((f : Int), ((t - f : Nat) : Int)) :: rest) = some (ef, (s : Int) + (had b (((f : Int), ((t - f : Nat) : Int)) :: rest)).length) ∧ fileAt b.length e (((f : Int), ((t - f : Nat) : Int)) :: rest) (had b (((f : Int), ((t - f : Nat) : Int)) :: rest)) = b.drop e := by
  obtain ⟨ef, h1, h2⟩ := ih
  have hp := piece_len (b := b) (Nat.le_of_lt hft) ht
  have hh := had_cons b ((f : Int), ((t - f : Nat) : Int)) rest
  simp only [Int.toNat_natCast] at hh
  refine ⟨ef, ?_, ?_⟩
  · unfold walk
    rw [if_neg (by dsimp only; omega)]
    dsimp only
    rw [show (f : Int) + ((t - f : Nat) : Int) = (t : Int) by omega, show (s : Int) + ((t - f : Nat) : Int) = ((s + (t - f) : Nat) : Int) by omega, h1, hh, List.length_append, hp]
    congr 2
    omega
  · unfold fileAt
    dsimp only
    rw [Int.toNat_natCast, Int.toNat_natCast, hh, List.take_append_of_le_length (Nat.le_of_eq hp.symm), List.take_of_length_le (Nat.le_of_eq hp), List.drop_append_of_le_length (Nat.le_of_eq hp.symm), List.drop_of_length_le (Nat.le_of_eq hp), List.nil_append, show f + (t - f) = t by omega, h2, void_drop hv hef (by omega), List.append_assoc]
    congr 1
    have := List.take_append_drop (t - f) (b.drop f)
    rw [List.drop_drop, show f + (t - f) = t by omega] at this
    exact this
theorem rowsAt_file (b : List Int) (f a : Nat) : ∀ e s : Nat, e ≤ f → f ≤ a → e ≤ b.length → Void b e f →
    ∃ ef, walk b.length e s (rowsAt b f a) = some (ef, (s : Int) + (had b (rowsAt b f a)).length) ∧ fileAt b.length e (rowsAt b f a) (had b (rowsAt b f a)) = b.drop e := by
  induction f, a using rowsAt.induct (b := b) with
  | case1 f a h hb ih =>
    intro e s hef hfa hel hv
    rw [rowsAt_blank h hb]
    rcases Nat.lt_or_ge f a with hlt | hge
    · rw [rowEnd_some hlt]
      exact part_more hef hlt (by omega) hv (ih a _ (by omega) (Nat.le_refl _) (by omega) (void_blank hb))
    · obtain rfl : f = a := by omega
      rw [rowEnd_none (Nat.le_refl _), List.nil_append]
      exact ih e s (by omega) (Nat.le_refl _) hel (hv.join (void_blank hb))
  | case2 f a h hb ih =>
    intro e s hef hfa hel hv
    rw [rowsAt_some h (by simpa using hb)]
    exact ih e s hef (by omega) hel hv
  | case3 f a h =>
    intro e s hef hfa hel hv
    rw [rowsAt_end h]
    rcases Nat.lt_or_ge f b.length with hlt | hge
    · rw [rowEnd_some hlt]
      refine part_more hef hlt (Nat.le_refl _) hv ⟨b.length, ?_, ?_⟩
      · simp [walk, had]
      · simp [fileAt, had, zeros]
    · rw [rowEnd_none hge]
      refine ⟨e, ?_, ?_⟩
      · simp [walk, had]
      · simp only [fileAt]
        exact (void_end hv hel hge).symm
theorem rowsAt_few (b : List Int) (f a : Nat) : 512 * (rowsAt b f a).length ≤ (b.length - a) + 1023 := by
  induction f, a using rowsAt.induct (b := b) with
  | case1 f a h hb ih =>
    rw [rowsAt_blank h hb, List.length_append]
    have := rowEnd_len f a
    omega
  | case2 f a h hb ih =>
    rw [rowsAt_some h (by simpa using hb)]
    omega
  | case3 f a h =>
    rw [rowsAt_end h]
    have := rowEnd_len f b.length
    omega
theorem rows_few {b : List Int} (h : b.length ≤ 100000) : (rows b).length ≤ 1000 := by have := rowsAt_few b 0 0; unfold rows; omega
theorem pack_check {b : List Int} (h : b.length ≤ 100000) : check (rows b) (had b (rows b)).length b.length = 0 := by
  obtain ⟨ef, h1, _⟩ := rowsAt_file b 0 0 0 0 (Nat.le_refl _) (Nat.le_refl _) (Nat.zero_le _) (fun i _ h => absurd h (by omega))
  have := rows_few h
  rw [check_walk _ (by omega) (by omega)]
  have e : walk b.length 0 0 (rows b) = some (ef, ((had b (rows b)).length : Int)) := by
    have := h1
    unfold rows
    rw [show ((0 : Nat) : Int) = 0 from rfl] at this
    rw [this]
    congr 2
    omega
  rw [e]
  show (if _ = _ then (0 : Int) else 11) = 0
  rw [if_pos rfl]
theorem pack_file (b : List Int) : file b.length (rows b) (had b (rows b)) = b := by
  obtain ⟨ef, _, h2⟩ := rowsAt_file b 0 0 0 0 (Nat.le_refl _) (Nat.le_refl _) (Nat.zero_le _) (fun i _ h => absurd h (by omega))
  exact h2
theorem pack_expand {b : List Int} (h : b.length ≤ 100000) : expandE (rows b) (had b (rows b)).length b.length = 0 ∧ expandB (rows b) (had b (rows b)) b.length = b := by
  have hE : expandE (rows b) (had b (rows b)).length b.length = 0 := expandE_ok (pack_check h) (by omega)
  refine ⟨hE, ?_⟩
  rw [expandB_ok hE, Int.toNat_natCast, pack_file]
theorem rows_small {b : List Int} (h : b.length ≤ 100000) : small (rows b) := by
  intro p hp
  obtain ⟨a, q, rfl, h1, h2⟩ := rowsAt_in b 0 0 p hp
  dsimp only
  omega
theorem rows_i64 {b : List Int} (h : b.length ≤ 100000) : i64s (rows b) := by
  intro p hp
  have := rows_small h p hp
  omega
theorem had_u8 {b : List Int} (h : ∀ z ∈ b, 0 ≤ z ∧ z ≤ 255) (l : List Pt) : ∀ z ∈ had b l, 0 ≤ z ∧ z ≤ 255 := by
  intro z hz
  unfold had at hz
  rw [List.mem_flatMap] at hz
  obtain ⟨p, _, hz⟩ := hz
  exact h z (List.mem_of_mem_drop (List.mem_of_mem_take hz))
theorem had_len {b : List Int} (h : b.length ≤ 100000) : (had b (rows b)).length ≤ b.length := by
  obtain ⟨_, _, _, e, hw⟩ := check_ok (pack_check h)
  have := walk_bd (Int.le_refl 0) (by omega) hw
  omega
end M
end Go.Proofs.YtjpflljmeaihgaaDoor
