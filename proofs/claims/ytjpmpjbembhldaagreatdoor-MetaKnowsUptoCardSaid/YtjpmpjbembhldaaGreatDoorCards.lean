/-
  DERIVED. GIVEN WITH THE SEED: THE CARDS: each row of YtjpmpjbembhldaaGreatDoorRows.lean that lists a variable, with what it lists TIED to the program's text (the seventh form; the later family's looks); each row that meets fmt, with fmt's text TOLD by the authors' own Lean function (tested against real Go, not proved from fmt's source: count such statements apart). THE CARD IS WHAT COUNTS. Prove the row's statement (the work); the ties are given (YtjpmpjbembhldaaGreatDoorTie.lean); close each card by the builder's one call (the guide's Derived/Test/ToyasCard.lean, 'card_holds'). Laid BY PROGRAM, IN A SANDBOX (cutbox-door.mjs). By AI agents, Wed Nov 11 2026. No macro, syntax, notation, axiom, sorry.
-/
import Derived.Test.YtjpmpjbembhldaaGreatDoorRows
import GoSem.ClaimSeven
namespace Go.Proofs.YtjpmpjbembhldaaGreatDoor
namespace Rows

/-- THE TIED CARD OF 'mudlarklaw10.MetaKnows'. -/
def metaKnowsCard : Claim7 := { stood := { row := metaKnowsRow, standIns := [], harness := (true, "42fed995fe8bd8db7aaa213d56ceb0cf3529a2335ab2a2e6f479c89ad63a04f1"), looks := true }, kinds := [], alts := [], laidByText := true, laidKinds := [.data, .data, .data, .data, .sentinel, .sentinel, .pinned], laidTests := true, laidLooks := .later }
def MetaKnowsCardSaid : Prop := Claim7.holds Tryz.pinned (.plain (OpenSpec.ofChange metaKnowsSpec)) metaKnowsCard

/-- THE SECOND FORM's CARD OF 'mudlarklaw10.MetaKnows'. -/
def metaKnowsUptoCard : Claim7 := { stood := { row := metaKnowsUptoRow, standIns := [], harness := (true, "42fed995fe8bd8db7aaa213d56ceb0cf3529a2335ab2a2e6f479c89ad63a04f1"), looks := true }, kinds := [], alts := [], laidByText := true, laidKinds := [.data, .data, .data, .data, .sentinel, .sentinel, .pinned], laidTests := true, laidLooks := .later }
def MetaKnowsUptoCardSaid : Prop := Claim7.holds Tryz.pinned (.plain (OpenSpec.upto metaKnowsSpec)) metaKnowsUptoCard
end Rows
end Go.Proofs.YtjpmpjbembhldaaGreatDoor
