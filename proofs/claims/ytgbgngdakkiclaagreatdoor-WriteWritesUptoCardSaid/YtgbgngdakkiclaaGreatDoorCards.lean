/-
  DERIVED. GIVEN WITH THE SEED: THE CARDS: each row of YtgbgngdakkiclaaGreatDoorRows.lean that lists a variable, with what it lists TIED to the program's text (the seventh form; the later family's looks); each row that meets fmt, with fmt's text TOLD by the authors' own Lean function (tested against real Go, not proved from fmt's source: count such statements apart). THE CARD IS WHAT COUNTS. Prove the row's statement (the work); the ties are given (YtgbgngdakkiclaaGreatDoorTie.lean); close each card by the builder's one call (the guide's Derived/Test/ToyasCard.lean, 'card_holds'). Laid BY PROGRAM, IN A SANDBOX (cutbox-door.mjs). By AI agents, Wed Nov 11 2026. No macro, syntax, notation, axiom, sorry.
-/
import Derived.Test.YtgbgngdakkiclaaGreatDoorRows
import GoSem.ClaimSeven
namespace Go.Proofs.YtgbgngdakkiclaaGreatDoor
namespace Rows

/-- THE TIED CARD OF 'mudlarklaw13.WriteShort'. -/
def writeShortCard : Claim7 := { stood := { row := writeShortRow, standIns := [], harness := (true, "2e356b032bf16c860f22fd86ecc56764575e81d0a017dd6ff3e233c4e5530fa9"), looks := true }, kinds := [], alts := [], laidByText := true, laidKinds := [.data, .data, .data, .data, .sentinel, .sentinel, .sentinel, .data, .pinned], laidTests := true, laidLooks := .later }
def WriteShortCardSaid : Prop := Claim7.holds Tryz.pinned (.plain (OpenSpec.ofChange writeShortSpec)) writeShortCard

/-- THE TIED CARD OF 'mudlarklaw13.WriteWrong'. -/
def writeWrongCard : Claim7 := { stood := { row := writeWrongRow, standIns := [], harness := (true, "2e356b032bf16c860f22fd86ecc56764575e81d0a017dd6ff3e233c4e5530fa9"), looks := true }, kinds := [], alts := [], laidByText := true, laidKinds := [.data, .data, .data, .data, .sentinel, .sentinel, .sentinel, .data, .pinned], laidTests := true, laidLooks := .later }
def WriteWrongCardSaid : Prop := Claim7.holds Tryz.pinned (.plain (OpenSpec.ofChange writeWrongSpec)) writeWrongCard

/-- THE TIED CARD OF 'mudlarklaw13.WriteWrites'. -/
def writeWritesCard : Claim7 := { stood := { row := writeWritesRow, standIns := [], harness := (true, "2e356b032bf16c860f22fd86ecc56764575e81d0a017dd6ff3e233c4e5530fa9"), looks := true }, kinds := [], alts := [], laidByText := true, laidKinds := [.data, .data, .data, .data, .sentinel, .sentinel, .sentinel, .data, .pinned], laidTests := true, laidLooks := .later }
def WriteWritesCardSaid : Prop := Claim7.holds Tryz.pinned (.plain (OpenSpec.ofChange writeWritesSpec)) writeWritesCard

/-- THE TIED CARD OF 'mudlarklaw13.WriteOne'. -/
def writeOneCard : Claim7 := { stood := { row := writeOneRow, standIns := [], harness := (true, "2e356b032bf16c860f22fd86ecc56764575e81d0a017dd6ff3e233c4e5530fa9"), looks := true }, kinds := [], alts := [], laidByText := true, laidKinds := [.data, .data, .data, .data, .sentinel, .sentinel, .sentinel, .data, .pinned], laidTests := true, laidLooks := .later }
def WriteOneCardSaid : Prop := Claim7.holds Tryz.pinned (.plain (OpenSpec.ofChange writeOneSpec)) writeOneCard

/-- THE SECOND FORM's CARD OF 'mudlarklaw13.WriteShort'. -/
def writeShortUptoCard : Claim7 := { stood := { row := writeShortUptoRow, standIns := [], harness := (true, "2e356b032bf16c860f22fd86ecc56764575e81d0a017dd6ff3e233c4e5530fa9"), looks := true }, kinds := [], alts := [], laidByText := true, laidKinds := [.data, .data, .data, .data, .sentinel, .sentinel, .sentinel, .data, .pinned], laidTests := true, laidLooks := .later }
def WriteShortUptoCardSaid : Prop := Claim7.holds Tryz.pinned (.plain (OpenSpec.upto writeShortSpec)) writeShortUptoCard

/-- THE SECOND FORM's CARD OF 'mudlarklaw13.WriteWrong'. -/
def writeWrongUptoCard : Claim7 := { stood := { row := writeWrongUptoRow, standIns := [], harness := (true, "2e356b032bf16c860f22fd86ecc56764575e81d0a017dd6ff3e233c4e5530fa9"), looks := true }, kinds := [], alts := [], laidByText := true, laidKinds := [.data, .data, .data, .data, .sentinel, .sentinel, .sentinel, .data, .pinned], laidTests := true, laidLooks := .later }
def WriteWrongUptoCardSaid : Prop := Claim7.holds Tryz.pinned (.plain (OpenSpec.upto writeWrongSpec)) writeWrongUptoCard

/-- THE SECOND FORM's CARD OF 'mudlarklaw13.WriteWrites'. -/
def writeWritesUptoCard : Claim7 := { stood := { row := writeWritesUptoRow, standIns := [], harness := (true, "2e356b032bf16c860f22fd86ecc56764575e81d0a017dd6ff3e233c4e5530fa9"), looks := true }, kinds := [], alts := [], laidByText := true, laidKinds := [.data, .data, .data, .data, .sentinel, .sentinel, .sentinel, .data, .pinned], laidTests := true, laidLooks := .later }
def WriteWritesUptoCardSaid : Prop := Claim7.holds Tryz.pinned (.plain (OpenSpec.upto writeWritesSpec)) writeWritesUptoCard

/-- THE SECOND FORM's CARD OF 'mudlarklaw13.WriteOne'. -/
def writeOneUptoCard : Claim7 := { stood := { row := writeOneUptoRow, standIns := [], harness := (true, "2e356b032bf16c860f22fd86ecc56764575e81d0a017dd6ff3e233c4e5530fa9"), looks := true }, kinds := [], alts := [], laidByText := true, laidKinds := [.data, .data, .data, .data, .sentinel, .sentinel, .sentinel, .data, .pinned], laidTests := true, laidLooks := .later }
def WriteOneUptoCardSaid : Prop := Claim7.holds Tryz.pinned (.plain (OpenSpec.upto writeOneSpec)) writeOneUptoCard
end Rows
end Go.Proofs.YtgbgngdakkiclaaGreatDoor
