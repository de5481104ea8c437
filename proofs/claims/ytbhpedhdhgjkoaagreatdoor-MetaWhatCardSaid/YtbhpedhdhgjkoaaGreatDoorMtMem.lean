/-
  A member's metadata and a header in memory.
-/
import Derived.Test.YtbhpedhdhgjkoaaGreatDoorMtMath
import Derived.Test.YtbhpedhdhgjkoaaGreatDoorKS
import Derived.Test.YtbhpedhdhgjkoaaGreatDoorKX
import Derived.Lib.Hide
import Derived.Laws.Cover1
import Derived.Lib.MinMax
set_option linter.unusedVariables false
set_option linter.unusedSimpArgs false
namespace Go.Proofs.YtbhpedhdhgjkoaaGreatDoor
open Go.RowKit Go.Lib
open Px (R2 tl)

/-- The cells of what is known; pv: its parts' slice; ev: its extra records'. -/
def mcells (m : M.Met) (pv ev : Value) : Array Value :=
  #[.string m.name, .string m.link, .int .u8 m.kind, .int .i64 m.mode, .int .i64 m.uid, .int .i64 m.gid, .string m.user, .string m.group, .int .i64 m.sec, .int .i64 m.nan, .int .i64 m.major, .int .i64 m.minor, .int .i64 m.size, .int .i64 m.real, .bool m.holes, pv, ev]
/-- A header's cells; pv: its parts' slice. -/
def hcells (h : M.Hdr) (pv : Value) : Array Value :=
  #[.string h.name, .int .i64 h.mode, .int .i64 h.uid, .int .i64 h.gid, .int .i64 h.size, .int .i64 h.mtime, .int .u8 h.kind, .string h.link, .int .i64 h.way, .string h.user, .string h.group, .int .i64 h.major, .int .i64 h.minor, .string h.pre, pv, .bool h.more, .int .i64 h.real]
/-- What is known of the sizes, and of what stands behind the slices. -/
structure MIn (w : World) (m : M.Met) (pv ev : Value) : Prop where
  parts : ∃ A c, pv = .slice A m.parts.length c ∧ Sp.RdP w w.heap.size A m.parts.length m.parts
  extra : ∃ A c, ev = .slice A m.extra.length c ∧ Px.RdR w w.heap.size A m.extra
  nparts : m.parts.length ≤ 1000000
  nextra : m.extra.length ≤ 500000
  i64s : Sp.M.i64s m.parts
  fits : ∀ r ∈ m.extra, r.1.size ≤ 1000000 ∧ r.2.size ≤ 1000000
  kind : 0 ≤ m.kind ∧ m.kind ≤ 255
  texts : m.name.size ≤ 1000000 ∧ m.link.size ≤ 1000000 ∧ m.user.size ≤ 1000000 ∧ m.group.size ≤ 1000000
  ints : (-9223372036854775808 ≤ m.mode ∧ m.mode ≤ 9223372036854775807) ∧ (-9223372036854775808 ≤ m.uid ∧ m.uid ≤ 9223372036854775807) ∧ (-9223372036854775808 ≤ m.gid ∧ m.gid ≤ 9223372036854775807) ∧
    (-9223372036854775808 ≤ m.sec ∧ m.sec ≤ 9223372036854775807) ∧ (-9223372036854775808 ≤ m.nan ∧ m.nan ≤ 9223372036854775807) ∧ (-9223372036854775808 ≤ m.major ∧ m.major ≤ 9223372036854775807) ∧
    (-9223372036854775808 ≤ m.minor ∧ m.minor ≤ 9223372036854775807) ∧ (-9223372036854775808 ≤ m.size ∧ m.size ≤ 9223372036854775807) ∧ (-9223372036854775808 ≤ m.real ∧ m.real ≤ 9223372036854775807)
theorem MIn.later {w w' : World} {m : M.Met} {pv ev : Value} (h : MIn w m pv ev) (hb : Below w.heap.size w w') : MIn w' m pv ev := by
  obtain ⟨⟨A, c, h1, h2⟩, ⟨A', c', h3, h4⟩, h5, h6, h7, h8, h9, h10, h11⟩ := h
  exact ⟨⟨A, c, h1, (h2.below hb).more hb.size⟩, ⟨A', c', h3, (h4.below hb).more hb.size⟩, h5, h6, h7, h8, h9, h10, h11⟩
end Go.Proofs.YtbhpedhdhgjkoaaGreatDoor
