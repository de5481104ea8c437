/-
  A field is parsed: a text's, a number's.
-/
import Derived.Test.YtcedcfagfklohaaKhHdSmall
import Derived.Test.YtcedcfagfklohaaKhHdStep
import Derived.Test.YtcedcfagfklohaaKhNumBinary
set_option linter.unusedVariables false
set_option linter.unusedSimpArgs false
namespace Go.Proofs.Ytcedcfagfklohaa.Hd
open Go.RowKit Go.Lib

theorem Rd.sub {w : World} {B b off n : Nat} {zs : List Int} (h : Rd w B (some ⟨b, off, none⟩) n zs) {a m : Nat} (ham : a + m ≤ n) : Rd w B (some ⟨b, off + a, none⟩) m (M.sub zs a m) := by
  refine ⟨M.sub_len (by rw [h.len]; exact ham), M.sub_bd h.bd, fun hm => ?_⟩
  obtain ⟨b', off', e, hb, hc⟩ := h.2.2 (by omega)
  injection e with e
  injection e with e1 e2
  subst e1 e2
  refine ⟨_, _, rfl, hb, fun j z hj => ?_⟩
  unfold M.sub at hj
  rw [List.getElem?_take] at hj
  split at hj
  · rw [List.getElem?_drop] at hj
    rw [Nat.add_assoc]
    exact hc _ z hj
  · cases hj

end Go.Proofs.Ytcedcfagfklohaa.Hd
