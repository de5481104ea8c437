/-
  Plain arithmetic of layer 5: what a block's bytes come to, its field, what is sealed. No program.
-/
import Derived.Test.YtcedcfagfklohaaKhNumMath
import Derived.Laws.CopyOwn
set_option linter.unusedVariables false
set_option linter.unusedSimpArgs false
namespace Go.Proofs.Ytcedcfagfklohaa.Hd
namespace M
open Go

/-- What a byte at a place counts: unsigned, signed; whether it is above 127, elsewhere than in the field. -/
def cu (i : Nat) (z : Int) : Int := if 148 ≤ i ∧ i < 156 then 32 else z
def cs (i : Nat) (z : Int) : Int := if 148 ≤ i ∧ i < 156 then 32 else if 127 < z then z - 256 else z
def hi (i : Nat) (z : Int) : Int := if 148 ≤ i ∧ i < 156 then 0 else if 127 < z then 1 else 0
def tot (f : Nat → Int → Int) : Nat → List Int → Int
  | _, [] => 0
  | i, z :: l => f i z + tot f (i + 1) l
theorem tot_app (f : Nat → Int → Int) : ∀ (a b : List Int) (i : Nat), tot f i (a ++ b) = tot f i a + tot f (i + a.length) b
  | [], b, i => by simp [tot]
  | z :: a, b, i => by
    have ih := tot_app f a b (i + 1)
    rw [List.cons_append, tot, tot, ih, List.length_cons, show i + 1 + a.length = i + (a.length + 1) by omega]
    omega
theorem tot_take (f : Nat → Int → Int) {zs : List Int} {k : Nat} {z : Int} (h : zs[k]? = some z) : tot f 0 (zs.take (k + 1)) = tot f 0 (zs.take k) + f k z := by
  have hk : k < zs.length := (List.getElem?_eq_some_iff.1 h).1
  rw [take_snoc' h, tot_app, List.length_take, Nat.min_eq_left (by omega), tot, tot, Nat.zero_add, Int.add_zero]
theorem tot_bd (f : Nat → Int → Int) (lo up : Int) : ∀ (zs : List Int) (i : Nat), (∀ z ∈ zs, ∀ j, lo ≤ f j z ∧ f j z ≤ up) → lo * zs.length ≤ tot f i zs ∧ tot f i zs ≤ up * zs.length
  | [], i, _ => by simp [tot]
  | z :: l, i, h => by
    have ih := tot_bd f lo up l (i + 1) (fun x hx => h x (by simp [hx]))
    have h1 := h z (by simp) i
    rw [tot, List.length_cons, Int.natCast_add, Int.mul_add, Int.mul_add]
    simp only [Int.natCast_one, Int.mul_one]
    omega
theorem cu_bd {i : Nat} {z : Int} (h : 0 ≤ z ∧ z ≤ 255) : 0 ≤ cu i z ∧ cu i z ≤ 255 := by unfold cu; split <;> omega
theorem cs_bd {i : Nat} {z : Int} (h : 0 ≤ z ∧ z ≤ 255) : -128 ≤ cs i z ∧ cs i z ≤ 127 := by unfold cs; split <;> (try split) <;> omega
theorem hi_bd (i : Nat) (z : Int) : 0 ≤ hi i z ∧ hi i z ≤ 1 := by unfold hi; split <;> (try split) <;> omega
theorem tot_cu_bd {zs : List Int} (i : Nat) (h : ∀ z ∈ zs, 0 ≤ z ∧ z ≤ 255) : 0 ≤ tot cu i zs ∧ tot cu i zs ≤ 255 * zs.length := by
  have := tot_bd cu 0 255 zs i (fun z hz j => cu_bd (h z hz))
  omega
theorem tot_cs_bd {zs : List Int} (i : Nat) (h : ∀ z ∈ zs, 0 ≤ z ∧ z ≤ 255) : -128 * (zs.length : Int) ≤ tot cs i zs ∧ tot cs i zs ≤ 127 * zs.length := tot_bd cs (-128) 127 zs i (fun z hz j => cs_bd (h z hz))
theorem tot_hi_bd (zs : List Int) (i : Nat) : 0 ≤ tot hi i zs ∧ tot hi i zs ≤ zs.length := by
  have := tot_bd hi 0 1 zs i (fun z _ j => hi_bd j z)
  omega
theorem cs_eq (i : Nat) (z : Int) : cs i z = cu i z - 256 * hi i z := by unfold cs cu hi; split <;> (try split) <;> omega
theorem tot_cs : ∀ (zs : List Int) (i : Nat), tot cs i zs = tot cu i zs - 256 * tot hi i zs
  | [], i => by simp [tot]
  | z :: l, i => by
    have ih := tot_cs l (i + 1)
    have := cs_eq i z
    rw [tot, tot, tot, ih, this]
    omega
theorem tot_same (f : Nat → Int → Int) : ∀ (a b : List Int) (i : Nat), a.length = b.length → (∀ j z z', i ≤ j → j < i + a.length → f j z = f j z') → tot f i a = tot f i b
  | [], [], i, _, _ => rfl
  | [], _ :: _, i, h, _ => by simp at h
  | _ :: _, [], i, h, _ => by simp at h
  | x :: a, y :: b, i, h, hf => by
    have ih := tot_same f a b (i + 1) (by simpa using h) (fun j z z' h1 h2 => hf j z z' (by omega) (by rw [List.length_cons]; omega))
    rw [tot, tot, ih, hf i x y (Nat.le_refl _) (by rw [List.length_cons]; omega)]
theorem tot_set (f : Nat → Int → Int) : ∀ (zs : List Int) (k i : Nat) (z v : Int), zs[k]? = some z → tot f i (zs.set k v) = tot f i zs - f (i + k) z + f (i + k) v
  | [], k, i, z, v, h => by simp at h
  | x :: l, 0, i, z, v, h => by
    simp at h
    subst h
    rw [List.set_cons_zero, tot, tot]
    simp only [Nat.add_zero]
    omega
  | x :: l, k + 1, i, z, v, h => by
    have ih := tot_set f l k (i + 1) z v (by simpa using h)
    rw [List.set_cons_succ, tot, tot, ih, show i + 1 + k = i + (k + 1) by omega]
    omega
theorem cu_out {i : Nat} {z : Int} (h : i < 148 ∨ 156 ≤ i) : cu i z = z := by unfold cu; rw [if_neg (by omega)]
theorem cu_in {i : Nat} {z : Int} (h : 148 ≤ i) (h' : i < 156) : cu i z = 32 := by unfold cu; rw [if_pos ⟨h, h'⟩]
theorem cs_in {i : Nat} {z : Int} (h : 148 ≤ i) (h' : i < 156) : cs i z = 32 := by unfold cs; rw [if_pos ⟨h, h'⟩]
theorem cs_lo {i : Nat} {z : Int} (h : i < 148 ∨ 156 ≤ i) (hz : z ≤ 127) : cs i z = z := by unfold cs; rw [if_neg (by omega), if_neg (by omega)]
theorem cs_hi {i : Nat} {z : Int} (h : i < 148 ∨ 156 ≤ i) (hz : 127 < z) : cs i z = z - 256 := by unfold cs; rw [if_neg (by omega), if_pos hz]
theorem hi_in {i : Nat} {z : Int} (h : 148 ≤ i) (h' : i < 156) : hi i z = 0 := by unfold hi; rw [if_pos ⟨h, h'⟩]
theorem hi_lo {i : Nat} {z : Int} (hz : z ≤ 127) : hi i z = 0 := by unfold hi; split; rfl; rw [if_neg (by omega)]
theorem hi_hi {i : Nat} {z : Int} (h : i < 148 ∨ 156 ≤ i) (hz : 127 < z) : hi i z = 1 := by unfold hi; rw [if_neg (by omega), if_pos hz]

def uns (zs : List Int) : Int := tot cu 0 zs
def sgn (zs : List Int) : Int := tot cs 0 zs
theorem sgn_eq (zs : List Int) : sgn zs = uns zs - 256 * tot hi 0 zs := tot_cs zs 0

/-! ### The field -/
def fld (zs : List Int) : List Int := (zs.drop 148).take 8
def toldOk (zs : List Int) : Bool := decide (zs.length = 512) && octOk (fld zs)
def toldN (zs : List Int) : Int := if zs.length = 512 then octN (fld zs) else 0
def right (zs : List Int) : Bool := toldOk zs && (toldN zs == uns zs || toldN zs == sgn zs)
def zero (zs : List Int) : Bool := decide (zs.length = 512) && zs.all (· == 0)
def pad (zs : List Int) : List Int := (zs ++ List.replicate 512 0).take 512
def sld (zs : List Int) : List Int := splice (pad zs) 148 (oct (uns (pad zs)) 7 ++ [32])

theorem toldOk_no {zs : List Int} (h : zs.length ≠ 512) : toldOk zs = false := by unfold toldOk; simp [h]
theorem toldN_no {zs : List Int} (h : zs.length ≠ 512) : toldN zs = 0 := by unfold toldN; rw [if_neg h]
theorem toldOk_yes {zs : List Int} (h : zs.length = 512) : toldOk zs = octOk (fld zs) := by unfold toldOk; simp [h]
theorem toldN_yes {zs : List Int} (h : zs.length = 512) : toldN zs = octN (fld zs) := by unfold toldN; rw [if_pos h]
theorem right_no {zs : List Int} (h : toldOk zs = false) : right zs = false := by unfold right; rw [h]; rfl
theorem zero_no {zs : List Int} (h : zs.length ≠ 512) : zero zs = false := by unfold zero; simp [h]

theorem pad_len (zs : List Int) : (pad zs).length = 512 := by unfold pad; rw [List.length_take, List.length_append, List.length_replicate]; omega
theorem pad_bd {zs : List Int} (h : ∀ z ∈ zs, 0 ≤ z ∧ z ≤ 255) : ∀ z ∈ pad zs, 0 ≤ z ∧ z ≤ 255 := by
  intro z hz
  rcases List.mem_append.1 (List.mem_of_mem_take hz) with h1 | h1
  · exact h z h1
  · rw [(List.mem_replicate.1 h1).2]; decide
theorem pad_self {zs : List Int} (h : zs.length = 512) : pad zs = zs := by
  unfold pad
  rw [List.take_append_of_le_length (by omega)]
  exact List.take_of_length_le (by omega)
theorem pad_nil : pad [] = List.replicate 512 0 := by unfold pad; rw [List.nil_append]; exact List.take_of_length_le (by rw [List.length_replicate]; exact Nat.le_refl _)
/-- What is copied into noughts. -/
theorem pad_splice (zs : List Int) : splice (List.replicate 512 (0 : Int)) 0 (zs.take 512) = pad zs := by
  unfold splice pad
  rw [List.take_zero, List.nil_append, List.drop_replicate, List.length_take, Nat.zero_add, List.take_append, List.take_replicate]
  congr 2
  omega
/-- One byte more of what is copied. -/
theorem pad_step {zs : List Int} {k : Nat} {z : Int} (hk : k < 512) (h : zs[k]? = some z) : (pad (zs.take k)).set k z = pad (zs.take (k + 1)) := by
  have hl : k < zs.length := (List.getElem?_eq_some_iff.1 h).1
  have e : zs.take (k + 1) = zs.take k ++ [z] := take_snoc' h
  apply List.ext_getElem?
  intro j
  have hk1 : (zs.take k).length = k := by rw [List.length_take]; omega
  rw [List.getElem?_set]
  by_cases hj : k = j
  · subst hj
    rw [if_pos rfl, pad_len, if_pos hk]
    unfold pad
    rw [List.getElem?_take, if_pos hk, e, List.append_assoc, List.getElem?_append_right (by omega), hk1, Nat.sub_self]
    rfl
  · rw [if_neg hj]
    unfold pad
    rw [List.getElem?_take, List.getElem?_take]
    by_cases h5 : j < 512
    · rw [if_pos h5, if_pos h5, e, List.append_assoc]
      by_cases hjk : j < k
      · rw [List.getElem?_append_left (by omega), List.getElem?_append_left (by omega)]
      · rw [List.getElem?_append_right (by omega), List.getElem?_append_right (by omega), hk1, List.getElem?_append_right (by simp; omega)]
        rw [List.getElem?_replicate, List.getElem?_replicate, List.length_singleton, if_pos (by omega), if_pos (by omega)]
    · rw [if_neg h5, if_neg h5]
theorem pad_take (zs : List Int) : pad (zs.take 512) = pad zs := by
  unfold pad
  by_cases h : zs.length ≤ 512
  · rw [List.take_of_length_le h]
  · rw [List.take_append_of_le_length (by rw [List.length_take]; omega), List.take_append_of_le_length (by omega), List.take_take, Nat.min_self]
theorem pad_most {zs : List Int} {k : Nat} (h : k = zs.length ∨ k = 512) (hk : k ≤ zs.length) : pad (zs.take k) = pad zs := by
  rcases h with rfl | rfl
  · rw [List.take_length]
  · exact pad_take zs

/-- One byte more of what is laid in. -/
theorem splice_step {zs a : List Int} {o : Nat} {v : Int} (h : o + a.length < zs.length) : (splice zs o a).set (o + a.length) v = splice zs o (a ++ [v]) := by
  unfold splice
  have h1 : (zs.take o).length = o := by rw [List.length_take]; omega
  rw [List.set_append_right _ _ (by omega), h1, Nat.add_sub_cancel_left, List.set_append_right _ _ (Nat.le_refl _), Nat.sub_self, List.length_append, List.length_singleton]
  congr 1
  rw [List.append_assoc]
  congr 1
  obtain ⟨x, l, hx⟩ : ∃ x l, zs.drop (o + a.length) = x :: l := by
    cases hd : zs.drop (o + a.length) with
    | nil => rw [List.drop_eq_nil_iff] at hd; omega
    | cons x l => exact ⟨x, l, rfl⟩
  rw [hx, List.set_cons_zero, show o + (a.length + 1) = o + a.length + 1 by omega, ← List.drop_drop, hx]
  rfl
theorem splice_nil (zs : List Int) (o : Nat) : splice zs o [] = zs := by unfold splice; simp
theorem splice_len {zs a : List Int} {o : Nat} (h : o + a.length ≤ zs.length) : (splice zs o a).length = zs.length := length_splice zs o a h

theorem oct7_len (n : Int) : (oct n 7).length = 7 := listOf_len _ _
theorem oct8_len (n : Int) : (oct n 7 ++ [32]).length = 8 := by rw [List.length_append, oct7_len]; rfl
theorem oct_bd (n : Int) (N : Nat) : ∀ z ∈ oct n N, 0 ≤ z ∧ z ≤ 255 := by
  intro z hz
  obtain ⟨j, _, rfl⟩ := List.mem_map.1 hz
  exact octG_bd n N j
theorem oct8_bd (n : Int) : ∀ z ∈ oct n 7 ++ [32], 0 ≤ z ∧ z ≤ 255 := by
  intro z hz
  rcases List.mem_append.1 hz with h | h
  · exact oct_bd n 7 z h
  · rw [List.mem_singleton.1 h]; decide
theorem splice_bd {zs a : List Int} {o : Nat} (h : ∀ z ∈ zs, 0 ≤ z ∧ z ≤ 255) (ha : ∀ z ∈ a, 0 ≤ z ∧ z ≤ 255) : ∀ z ∈ splice zs o a, 0 ≤ z ∧ z ≤ 255 := by
  intro z hz
  unfold splice at hz
  rcases List.mem_append.1 hz with h1 | h1
  · exact h z (List.mem_of_mem_take h1)
  · rcases List.mem_append.1 h1 with h2 | h2
    · exact ha z h2
    · exact h z (List.mem_of_mem_drop h2)
theorem sld_len (zs : List Int) : (sld zs).length = 512 := by unfold sld; rw [splice_len (by rw [oct8_len, pad_len]; omega), pad_len]
theorem sld_bd {zs : List Int} (h : ∀ z ∈ zs, 0 ≤ z ∧ z ≤ 255) : ∀ z ∈ sld zs, 0 ≤ z ∧ z ≤ 255 := splice_bd (pad_bd h) (oct8_bd _)
theorem uns_pad_bd {zs : List Int} (h : ∀ z ∈ zs, 0 ≤ z ∧ z ≤ 255) : 0 ≤ uns (pad zs) ∧ uns (pad zs) ≤ 130560 := by
  have := tot_cu_bd 0 (pad_bd h)
  rw [pad_len] at this
  unfold uns
  omega
theorem fits7 {n : Int} (h : 0 ≤ n) (h' : n ≤ 262143) : octFits n 7 = true ∧ n / 8 ^ 6 = 0 ∧ octR n 7 = oct n 7 := by
  have hz : n / 8 ^ 6 = 0 := by
    rw [show (8 : Int) ^ 6 = 262144 from by decide]
    omega
  have hf : octFits n 7 = true := by
    unfold octFits most
    rw [show (7 : Int).toNat - 1 = 6 from rfl, hz]
    simp
    omega
  refine ⟨hf, hz, ?_⟩
  unfold octR
  rw [hf]
  rfl

/-- What the field does not count. -/
theorem tot_splice (f : Nat → Int → Int) (hf : ∀ j z z', 148 ≤ j → j < 156 → f j z = f j z') {zs a : List Int} (hl : 156 ≤ zs.length) (ha : a.length = 8) : tot f 0 (splice zs 148 a) = tot f 0 zs := by
  have e : zs = zs.take 148 ++ (((zs.drop 148).take 8) ++ zs.drop 156) := by
    conv => lhs; rw [← List.take_append_drop 148 zs]
    congr 1
    conv => lhs; rw [← List.take_append_drop 8 (zs.drop 148), List.drop_drop]
  have h1 : (zs.take 148).length = 148 := by rw [List.length_take]; omega
  have h2 : ((zs.drop 148).take 8).length = 8 := by rw [List.length_take, List.length_drop]; omega
  unfold splice
  conv => rhs; rw [e]
  rw [tot_app, tot_app, tot_app, tot_app, h1, h2, ha, tot_same f a ((zs.drop 148).take 8) (0 + 148) (by rw [ha, h2]) (fun j z z' h3 h4 => hf j z z' (by omega) (by omega))]
theorem uns_splice {zs a : List Int} (hl : 156 ≤ zs.length) (ha : a.length = 8) : uns (splice zs 148 a) = uns zs :=
  tot_splice cu (fun j z z' h1 h2 => by rw [cu_in h1 h2, cu_in h1 h2]) hl ha
theorem fld_splice {zs a : List Int} (hl : 156 ≤ zs.length) (ha : a.length = 8) : fld (splice zs 148 a) = a := by
  have h1 : (zs.take 148).length = 148 := by rw [List.length_take]; omega
  unfold fld splice
  rw [List.drop_append_of_le_length (by omega), List.drop_eq_nil_of_le (by omega), List.nil_append, List.take_append_of_le_length (by omega)]
  exact List.take_of_length_le (by omega)
theorem uns_sld (zs : List Int) : uns (sld zs) = uns (pad zs) := uns_splice (by rw [pad_len]; omega) (oct8_len _)
theorem fld_sld (zs : List Int) : fld (sld zs) = oct (uns (pad zs)) 7 ++ [32] := fld_splice (by rw [pad_len]; omega) (oct8_len _)
end M
end Go.Proofs.Ytcedcfagfklohaa.Hd
