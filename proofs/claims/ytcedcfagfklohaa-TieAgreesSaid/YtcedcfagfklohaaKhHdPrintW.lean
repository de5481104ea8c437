/-
  head.Print: the walk.
-/
import Derived.Test.YtcedcfagfklohaaKhPrintZ
set_option linter.unusedVariables false
set_option linter.unusedSimpArgs false
namespace Go.Proofs.Ytcedcfagfklohaa.Hd
open Go.RowKit Go.Lib
attribute [local go_sem ↓] run_make512

/-- A header that may come in. -/
structure HIn (w : World) (h : M.Hdr) (pv : Value) : Prop where
  parts : PartsB w w.heap.size pv h.parts
  nums : i64p h.parts
  kind : 0 ≤ h.kind ∧ h.kind ≤ 255
  ints : (-9223372036854775808 ≤ h.mode ∧ h.mode ≤ 9223372036854775807) ∧ (-9223372036854775808 ≤ h.uid ∧ h.uid ≤ 9223372036854775807) ∧ (-9223372036854775808 ≤ h.gid ∧ h.gid ≤ 9223372036854775807) ∧ (-9223372036854775808 ≤ h.size ∧ h.size ≤ 9223372036854775807) ∧ (-9223372036854775808 ≤ h.mtime ∧ h.mtime ≤ 9223372036854775807) ∧
    (-9223372036854775808 ≤ h.major ∧ h.major ≤ 9223372036854775807) ∧ (-9223372036854775808 ≤ h.minor ∧ h.minor ≤ 9223372036854775807) ∧ (-9223372036854775808 ≤ h.real ∧ h.real ≤ 9223372036854775807)
  texts : h.name.size ≤ 100000 ∧ h.link.size ≤ 100000 ∧ h.user.size ≤ 100000 ∧ h.group.size ≤ 100000 ∧ h.pre.size ≤ 100000

theorem magic_len (k : Nat) : (M.magic k).length = 8 := by
  match k with
  | 0 => rfl
  | 1 => rfl
  | k + 2 => rfl
theorem PartsB.mono {w : World} {B B' : Nat} {pv : Value} {l : List (Int × Int)} (h : PartsB w B pv l) (hb : B ≤ B') : PartsB w B' pv l := by
  obtain ⟨A, c, rfl, h1, h2⟩ := h
  exact ⟨A, c, rfl, h1, fun hl => let ⟨b, off, e, h4, h5⟩ := h2 hl; ⟨b, off, e, Nat.lt_of_lt_of_le h4 hb, h5⟩⟩
theorem magic_row (k : Nat) (hk : k < 3) : Lib.byteCells (mgs k).data.toList = bcells (M.magic k) ∧ (mgs k).size = 8 := by
  have : k = 0 ∨ k = 1 ∨ k = 2 := by omega
  rcases this with rfl | rfl | rfl <;> exact ⟨rfl, rfl⟩
theorem copy_magic (W : World) (gb : Nat) (zs : List Int) (k : Nat) (hk : k < 3) (ty : TypeId) (ha : Arr W gb 5 zs) (hz : zs.length = 512) :
    (Builtin.copy_ #[22, 9] ty #[.slice (some ⟨gb, 257, none⟩) 255 255, .string (mgs k)]).run Try.prog W = .ok (.int .i64 8) (laid W gb (splice zs 257 (M.magic k))) := by
  obtain ⟨h1, h2⟩ := magic_row k hk
  have h := Lib.run_copy_row_string (P := Try.prog) W 22 9 ty 5 gb 257 255 255 (mgs k) _ _ Try.underlying22 u8_size ha.out (by omega) (by rw [bcells_size, hz]; omega)
  rw [h1, h2] at h
  have e := splice_cells zs (M.magic k) 257
  have hm : (bcells (M.magic k)).length = 8 := by rw [← h1, Lib.byteCells_length, ← h2]; rfl
  rw [hm] at e
  rw [List.append_assoc, e] at h
  exact h

end Go.Proofs.Ytcedcfagfklohaa.Hd
