/-
  DERIVED. GIVEN WITH THE SEED: THE CARDS: each row of YtkpnhggpcpjddaaDoorRows.lean that lists a variable, with what it lists TIED to the program's text (the seventh form; the later family's looks); each row that meets fmt, with fmt's text TOLD by the authors' own Lean function (tested against real Go, not proved from fmt's source: count such statements apart). THE CARD IS WHAT COUNTS. Prove the row's statement (the work); the ties are given (YtkpnhggpcpjddaaDoorTie.lean); close each card by the builder's one call (the guide's Derived/Test/ToyasCard.lean, 'card_holds'). Laid BY PROGRAM, IN A SANDBOX (cutbox-door.mjs). By AI agents, Wed Nov 11 2026. No macro, syntax, notation, axiom, sorry.
-/
import Derived.Test.YtkpnhggpcpjddaaDoorRows
import GoSem.ClaimSeven
namespace Go.Proofs.YtkpnhggpcpjddaaDoor
namespace Rows

/-- THE TIED CARD OF 'mudlarklaw14.ScoreNone'. -/
def scoreNoneCard : Claim7 := { stood := { row := scoreNoneRow, standIns := [], harness := (true, "18f473083bf7cc1a1c06389bf1d84abb50507269d6df9fe5f1b3b3dc161b7614"), looks := true }, kinds := [], alts := [], laidByText := true, laidKinds := [.data, .data, .pinned], laidTests := true, laidLooks := .later }
def ScoreNoneCardSaid : Prop := Claim7.holds Tryd.pinned (.plain (OpenSpec.ofChange scoreNoneSpec)) scoreNoneCard

/-- THE TIED CARD OF 'mudlarklaw14.ScoreSealed'. -/
def scoreSealedCard : Claim7 := { stood := { row := scoreSealedRow, standIns := [], harness := (true, "18f473083bf7cc1a1c06389bf1d84abb50507269d6df9fe5f1b3b3dc161b7614"), looks := true }, kinds := [], alts := [], laidByText := true, laidKinds := [.data, .data, .pinned], laidTests := true, laidLooks := .later }
def ScoreSealedCardSaid : Prop := Claim7.holds Tryd.pinned (.plain (OpenSpec.ofChange scoreSealedSpec)) scoreSealedCard

/-- THE TIED CARD OF 'mudlarklaw14.ScoreHeaders'. -/
def scoreHeadersCard : Claim7 := { stood := { row := scoreHeadersRow, standIns := [], harness := (true, "18f473083bf7cc1a1c06389bf1d84abb50507269d6df9fe5f1b3b3dc161b7614"), looks := true }, kinds := [], alts := [], laidByText := true, laidKinds := [.data, .data, .pinned], laidTests := true, laidLooks := .later }
def ScoreHeadersCardSaid : Prop := Claim7.holds Tryd.pinned (.plain (OpenSpec.ofChange scoreHeadersSpec)) scoreHeadersCard

/-- THE SECOND FORM's CARD OF 'mudlarklaw14.ScoreNone'. -/
def scoreNoneUptoCard : Claim7 := { stood := { row := scoreNoneUptoRow, standIns := [], harness := (true, "18f473083bf7cc1a1c06389bf1d84abb50507269d6df9fe5f1b3b3dc161b7614"), looks := true }, kinds := [], alts := [], laidByText := true, laidKinds := [.data, .data, .pinned], laidTests := true, laidLooks := .later }
def ScoreNoneUptoCardSaid : Prop := Claim7.holds Tryd.pinned (.plain (OpenSpec.upto scoreNoneSpec)) scoreNoneUptoCard

/-- THE SECOND FORM's CARD OF 'mudlarklaw14.ScoreSealed'. -/
def scoreSealedUptoCard : Claim7 := { stood := { row := scoreSealedUptoRow, standIns := [], harness := (true, "18f473083bf7cc1a1c06389bf1d84abb50507269d6df9fe5f1b3b3dc161b7614"), looks := true }, kinds := [], alts := [], laidByText := true, laidKinds := [.data, .data, .pinned], laidTests := true, laidLooks := .later }
def ScoreSealedUptoCardSaid : Prop := Claim7.holds Tryd.pinned (.plain (OpenSpec.upto scoreSealedSpec)) scoreSealedUptoCard

/-- THE SECOND FORM's CARD OF 'mudlarklaw14.ScoreHeaders'. -/
def scoreHeadersUptoCard : Claim7 := { stood := { row := scoreHeadersUptoRow, standIns := [], harness := (true, "18f473083bf7cc1a1c06389bf1d84abb50507269d6df9fe5f1b3b3dc161b7614"), looks := true }, kinds := [], alts := [], laidByText := true, laidKinds := [.data, .data, .pinned], laidTests := true, laidLooks := .later }
def ScoreHeadersUptoCardSaid : Prop := Claim7.holds Tryd.pinned (.plain (OpenSpec.upto scoreHeadersSpec)) scoreHeadersUptoCard
end Rows
end Go.Proofs.YtkpnhggpcpjddaaDoor
