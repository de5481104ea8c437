/-
  DERIVED. GIVEN WITH THE SEED: THE CARDS: each row of YtgfihdfncddpaaaGreatDoorRows.lean that lists a variable, with what it lists TIED to the program's text (the seventh form; the later family's looks); each row that meets fmt, with fmt's text TOLD by the authors' own Lean function (tested against real Go, not proved from fmt's source: count such statements apart). THE CARD IS WHAT COUNTS. Prove the row's statement (the work); the ties are given (YtgfihdfncddpaaaGreatDoorTie.lean); close each card by the builder's one call (the guide's Derived/Test/ToyasCard.lean, 'card_holds'). Laid BY PROGRAM, IN A SANDBOX (cutbox-door.mjs). By AI agents, Wed Nov 11 2026. No macro, syntax, notation, axiom, sorry.
-/
import Derived.Test.YtgfihdfncddpaaaGreatDoorRows
import GoSem.ClaimSeven
namespace Go.Proofs.YtgfihdfncddpaaaGreatDoor
namespace Rows

/-- THE TIED CARD OF 'mudlarklaw10.MetaBack'. -/
def metaBackCard : Claim7 := { stood := { row := metaBackRow, standIns := [], harness := (true, "0326ff47c44e3dd1fc6dc2d3c6f18d209a1306cab2a7c7e92f85016fd0618dca"), looks := true }, kinds := [], alts := [], laidByText := true, laidKinds := [.data, .data, .data, .data, .sentinel, .sentinel, .pinned], laidTests := true, laidLooks := .later }
def MetaBackCardSaid : Prop := Claim7.holds Tryz.pinned (.plain (OpenSpec.ofChange metaBackSpec)) metaBackCard

/-- THE TIED CARD OF 'mudlarklaw10.MetaWhat'. -/
def metaWhatCard : Claim7 := { stood := { row := metaWhatRow, standIns := [], harness := (true, "0326ff47c44e3dd1fc6dc2d3c6f18d209a1306cab2a7c7e92f85016fd0618dca"), looks := true }, kinds := [], alts := [], laidByText := true, laidKinds := [.data, .data, .data, .data, .sentinel, .sentinel, .pinned], laidTests := true, laidLooks := .later }
def MetaWhatCardSaid : Prop := Claim7.holds Tryz.pinned (.plain (OpenSpec.ofChange metaWhatSpec)) metaWhatCard

/-- THE SECOND FORM's CARD OF 'mudlarklaw10.MetaBack'. -/
def metaBackUptoCard : Claim7 := { stood := { row := metaBackUptoRow, standIns := [], harness := (true, "0326ff47c44e3dd1fc6dc2d3c6f18d209a1306cab2a7c7e92f85016fd0618dca"), looks := true }, kinds := [], alts := [], laidByText := true, laidKinds := [.data, .data, .data, .data, .sentinel, .sentinel, .pinned], laidTests := true, laidLooks := .later }
def MetaBackUptoCardSaid : Prop := Claim7.holds Tryz.pinned (.plain (OpenSpec.upto metaBackSpec)) metaBackUptoCard

/-- THE SECOND FORM's CARD OF 'mudlarklaw10.MetaWhat'. -/
def metaWhatUptoCard : Claim7 := { stood := { row := metaWhatUptoRow, standIns := [], harness := (true, "0326ff47c44e3dd1fc6dc2d3c6f18d209a1306cab2a7c7e92f85016fd0618dca"), looks := true }, kinds := [], alts := [], laidByText := true, laidKinds := [.data, .data, .data, .data, .sentinel, .sentinel, .pinned], laidTests := true, laidLooks := .later }
def MetaWhatUptoCardSaid : Prop := Claim7.holds Tryz.pinned (.plain (OpenSpec.upto metaWhatSpec)) metaWhatUptoCard
end Rows
end Go.Proofs.YtgfihdfncddpaaaGreatDoor
