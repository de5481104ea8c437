/-
  DERIVED. GIVEN WITH THE SEED: THE CARDS: each row of YtbhpedhdhgjkoaaGreatDoorRows.lean that lists a variable, with what it lists TIED to the program's text (the seventh form; the later family's looks); each row that meets fmt, with fmt's text TOLD by the authors' own Lean function (tested against real Go, not proved from fmt's source: count such statements apart). THE CARD IS WHAT COUNTS. Prove the row's statement (the work); the ties are given (YtbhpedhdhgjkoaaGreatDoorTie.lean); close each card by the builder's one call (the guide's Derived/Test/ToyasCard.lean, 'card_holds'). Laid BY PROGRAM, IN A SANDBOX (cutbox-door.mjs). By AI agents, Wed Nov 11 2026. No macro, syntax, notation, axiom, sorry.
-/
import Derived.Test.YtbhpedhdhgjkoaaGreatDoorRows
import GoSem.ClaimSeven
namespace Go.Proofs.YtbhpedhdhgjkoaaGreatDoor
namespace Rows

/-- THE TIED CARD OF 'mudlarklaw10.MetaWhat'. -/
def metaWhatCard : Claim7 := { stood := { row := metaWhatRow, standIns := [], harness := (true, "11f9f3daa9f8af6d14e9b0bbc0e80ddae5a2eb57df98f1ed370632ad99ea9938"), looks := true }, kinds := [], alts := [], laidByText := true, laidKinds := [.data, .data, .data, .data, .sentinel, .sentinel, .pinned], laidTests := true, laidLooks := .later }
def MetaWhatCardSaid : Prop := Claim7.holds Tryz.pinned (.plain (OpenSpec.ofChange metaWhatSpec)) metaWhatCard

/-- THE SECOND FORM's CARD OF 'mudlarklaw10.MetaWhat'. -/
def metaWhatUptoCard : Claim7 := { stood := { row := metaWhatUptoRow, standIns := [], harness := (true, "11f9f3daa9f8af6d14e9b0bbc0e80ddae5a2eb57df98f1ed370632ad99ea9938"), looks := true }, kinds := [], alts := [], laidByText := true, laidKinds := [.data, .data, .data, .data, .sentinel, .sentinel, .pinned], laidTests := true, laidLooks := .later }
def MetaWhatUptoCardSaid : Prop := Claim7.holds Tryz.pinned (.plain (OpenSpec.upto metaWhatSpec)) metaWhatUptoCard
end Rows
end Go.Proofs.YtbhpedhdhgjkoaaGreatDoor
