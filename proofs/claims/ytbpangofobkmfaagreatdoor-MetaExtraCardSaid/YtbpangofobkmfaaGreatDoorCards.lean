/-
  DERIVED. GIVEN WITH THE SEED: THE CARDS: each row of YtbpangofobkmfaaGreatDoorRows.lean that lists a variable, with what it lists TIED to the program's text (the seventh form; the later family's looks); each row that meets fmt, with fmt's text TOLD by the authors' own Lean function (tested against real Go, not proved from fmt's source: count such statements apart). THE CARD IS WHAT COUNTS. Prove the row's statement (the work); the ties are given (YtbpangofobkmfaaGreatDoorTie.lean); close each card by the builder's one call (the guide's Derived/Test/ToyasCard.lean, 'card_holds'). Laid BY PROGRAM, IN A SANDBOX (cutbox-door.mjs). By AI agents, Wed Nov 11 2026. No macro, syntax, notation, axiom, sorry.
-/
import Derived.Test.YtbpangofobkmfaaGreatDoorRows
import GoSem.ClaimSeven
namespace Go.Proofs.YtbpangofobkmfaaGreatDoor
namespace Rows

/-- THE TIED CARD OF 'mudlarklaw10.MetaLong'. -/
def metaLongCard : Claim7 := { stood := { row := metaLongRow, standIns := [], harness := (true, "37cadd94ee02665aa114c19520481ca24754385b1a347be7bee82b4015403193"), looks := true }, kinds := [], alts := [], laidByText := true, laidKinds := [.data, .data, .data, .data, .sentinel, .sentinel, .pinned], laidTests := true, laidLooks := .later }
def MetaLongCardSaid : Prop := Claim7.holds Tryz.pinned (.plain (OpenSpec.ofChange metaLongSpec)) metaLongCard

/-- THE TIED CARD OF 'mudlarklaw10.MetaOwn'. -/
def metaOwnCard : Claim7 := { stood := { row := metaOwnRow, standIns := [], harness := (true, "37cadd94ee02665aa114c19520481ca24754385b1a347be7bee82b4015403193"), looks := true }, kinds := [], alts := [], laidByText := true, laidKinds := [.data, .data, .data, .data, .sentinel, .sentinel, .pinned], laidTests := true, laidLooks := .later }
def MetaOwnCardSaid : Prop := Claim7.holds Tryz.pinned (.plain (OpenSpec.ofChange metaOwnSpec)) metaOwnCard

/-- THE TIED CARD OF 'mudlarklaw10.MetaExtra'. -/
def metaExtraCard : Claim7 := { stood := { row := metaExtraRow, standIns := [], harness := (true, "37cadd94ee02665aa114c19520481ca24754385b1a347be7bee82b4015403193"), looks := true }, kinds := [], alts := [], laidByText := true, laidKinds := [.data, .data, .data, .data, .sentinel, .sentinel, .pinned], laidTests := true, laidLooks := .later }
def MetaExtraCardSaid : Prop := Claim7.holds Tryz.pinned (.plain (OpenSpec.ofChange metaExtraSpec)) metaExtraCard

/-- THE TIED CARD OF 'mudlarklaw10.MetaSplits'. -/
def metaSplitsCard : Claim7 := { stood := { row := metaSplitsRow, standIns := [], harness := (true, "37cadd94ee02665aa114c19520481ca24754385b1a347be7bee82b4015403193"), looks := true }, kinds := [], alts := [], laidByText := true, laidKinds := [.data, .data, .data, .data, .sentinel, .sentinel, .pinned], laidTests := true, laidLooks := .later }
def MetaSplitsCardSaid : Prop := Claim7.holds Tryz.pinned (.plain (OpenSpec.ofChange metaSplitsSpec)) metaSplitsCard

/-- THE SECOND FORM's CARD OF 'mudlarklaw10.MetaLong'. -/
def metaLongUptoCard : Claim7 := { stood := { row := metaLongUptoRow, standIns := [], harness := (true, "37cadd94ee02665aa114c19520481ca24754385b1a347be7bee82b4015403193"), looks := true }, kinds := [], alts := [], laidByText := true, laidKinds := [.data, .data, .data, .data, .sentinel, .sentinel, .pinned], laidTests := true, laidLooks := .later }
def MetaLongUptoCardSaid : Prop := Claim7.holds Tryz.pinned (.plain (OpenSpec.upto metaLongSpec)) metaLongUptoCard

/-- THE SECOND FORM's CARD OF 'mudlarklaw10.MetaOwn'. -/
def metaOwnUptoCard : Claim7 := { stood := { row := metaOwnUptoRow, standIns := [], harness := (true, "37cadd94ee02665aa114c19520481ca24754385b1a347be7bee82b4015403193"), looks := true }, kinds := [], alts := [], laidByText := true, laidKinds := [.data, .data, .data, .data, .sentinel, .sentinel, .pinned], laidTests := true, laidLooks := .later }
def MetaOwnUptoCardSaid : Prop := Claim7.holds Tryz.pinned (.plain (OpenSpec.upto metaOwnSpec)) metaOwnUptoCard

/-- THE SECOND FORM's CARD OF 'mudlarklaw10.MetaExtra'. -/
def metaExtraUptoCard : Claim7 := { stood := { row := metaExtraUptoRow, standIns := [], harness := (true, "37cadd94ee02665aa114c19520481ca24754385b1a347be7bee82b4015403193"), looks := true }, kinds := [], alts := [], laidByText := true, laidKinds := [.data, .data, .data, .data, .sentinel, .sentinel, .pinned], laidTests := true, laidLooks := .later }
def MetaExtraUptoCardSaid : Prop := Claim7.holds Tryz.pinned (.plain (OpenSpec.upto metaExtraSpec)) metaExtraUptoCard

/-- THE SECOND FORM's CARD OF 'mudlarklaw10.MetaSplits'. -/
def metaSplitsUptoCard : Claim7 := { stood := { row := metaSplitsUptoRow, standIns := [], harness := (true, "37cadd94ee02665aa114c19520481ca24754385b1a347be7bee82b4015403193"), looks := true }, kinds := [], alts := [], laidByText := true, laidKinds := [.data, .data, .data, .data, .sentinel, .sentinel, .pinned], laidTests := true, laidLooks := .later }
def MetaSplitsUptoCardSaid : Prop := Claim7.holds Tryz.pinned (.plain (OpenSpec.upto metaSplitsSpec)) metaSplitsUptoCard
end Rows
end Go.Proofs.YtbpangofobkmfaaGreatDoor
