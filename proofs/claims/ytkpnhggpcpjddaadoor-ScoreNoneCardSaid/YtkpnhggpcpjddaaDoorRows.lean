/-
  NARROWER THAN 'FOR EVERY INPUT', by the rows' own cells (each row's printed sentence says how): ScoreNone: laid · ScoreSealed: laid · ScoreHeaders: laid.
  DERIVED. THE GIVEN ROWS OF THIS SEAT. 3 by the template 'for every input the law returns true; each argument reads behind the call as it read before'; 0 by the template 'total and deterministic' (their statements: YtkpnhggpcpjddaaDoorTotals.lean).
  GIVEN WITH THE SEED: the statements are not yours to turn. If you find one false, say at which input.
  Laid BY PROGRAM, IN A SANDBOX (cutbox-rows.mjs): the forced cells as the released guide's own fill.sh prints them over the translation b9f1b70b386f0359… (all of the seat's roots in one cut). By AI agents, Wed Nov 11 2026. No macro, syntax, notation, axiom, sorry.
-/
import Derived.Test.YtkpnhggpcpjddaaDoorChecked
import GoSem.PinnedTables
import GoSem.Claim
import GoSem.ClaimJoined
import GoSem.ClaimMapViews
import Derived.JoinedTies
import Derived.KernelRfl
namespace Go.Proofs.YtkpnhggpcpjddaaDoor
/- THE CELL 'sum', in the pinned program and in every row, IS THE sha256 OF THE DUMP (.gsa) THAT YtkpnhggpcpjddaaDoorProg.lean LOADS. Nothing in Lean hashes anything: it is a label: what it is worth is what the hold of that sum in a sandbox is worth. -/
noncomputable def Tryd.pinned : Pinned := { name := "ytkpnhggpcpjddaadoor", sum := "b9f1b70b386f03599f111a718163ea11f33c38cf872601d110c806336887d6ec", checked := Tryd.checked }
namespace Rows
def none {H : Type} : Left H := { results := [], args := [] }

/- WHAT THE LISTED PACKAGE-LEVEL VARIABLES READ AS WHEN THE CALL BEGINS. Each datum BY PROGRAM (the guide's laid-datum.mjs) off the statement by which the dump's own 'gosem.cut.vars' lays the variable. In a bare row this is a premise. The card (YtkpnhggpcpjddaaDoorCards.lean) ties it to the program's text. -/
def laid_unicode_utf8_acceptRanges {H : Type} : DataW H := .agg [.agg [.lit (.int .u8 128), .lit (.int .u8 191)], .agg [.lit (.int .u8 160), .lit (.int .u8 191)], .agg [.lit (.int .u8 128), .lit (.int .u8 159)], .agg [.lit (.int .u8 144), .lit (.int .u8 191)], .agg [.lit (.int .u8 128), .lit (.int .u8 143)], .agg [.lit (.int .u8 0), .lit (.int .u8 0)], .agg [.lit (.int .u8 0), .lit (.int .u8 0)], .agg [.lit (.int .u8 0), .lit (.int .u8 0)], .agg [.lit (.int .u8 0), .lit (.int .u8 0)], .agg [.lit (.int .u8 0), .lit (.int .u8 0)], .agg [.lit (.int .u8 0), .lit (.int .u8 0)], .agg [.lit (.int .u8 0), .lit (.int .u8 0)], .agg [.lit (.int .u8 0), .lit (.int .u8 0)], .agg [.lit (.int .u8 0), .lit (.int .u8 0)], .agg [.lit (.int .u8 0), .lit (.int .u8 0)], .agg [.lit (.int .u8 0), .lit (.int .u8 0)]]
def laid_mudlark_head_magics {H : Type} : DataW H := .agg [.lit (.string [0, 0, 0, 0, 0, 0, 0, 0]), .lit (.string [117, 115, 116, 97, 114, 0, 48, 48]), .lit (.string [117, 115, 116, 97, 114, 32, 32, 0])]
/-- One of Go's own tables, pinned by name: the form's constant. -/
def laid_unicode_utf8_first : DataW Unit := Go.Pinned.utf8First

/-- 'mudlarklaw14.ScoreNone': WHATEVER THE INPUT: true; the input reads as it did. -/
def scoreNoneSpec : ChangeSpec := { name := "scoreNone", fn := fun _ => fun
  | [d1, d2] => { results := [.lit (.bool true)], args := [d1, d2] }
  | _ => none }
def scoreNoneRow : OpenClaim := { program := "ytkpnhggpcpjddaadoor", sum := "b9f1b70b386f03599f111a718163ea11f33c38cf872601d110c806336887d6ec", func := "mudlark/mudlarklaw14.ScoreNone", spec := "scoreNone", inPlace := ["internal/bytealg.IndexByte", "internal/bytealg.Index"], unfollowed := true, recurses := true, named := ["mudlark/head.magics", "internal/bytealg.MaxLen", "unicode/utf8.first", "unicode/utf8.acceptRanges"], apart := false, laid := [("unicode/utf8.acceptRanges", laid_unicode_utf8_acceptRanges), ("mudlark/head.magics", laid_mudlark_head_magics), ("unicode/utf8.first", laid_unicode_utf8_first)] }
def ScoreNoneSaid : Prop := scoreNoneRow.holds Tryd.pinned (OpenSpec.ofChange scoreNoneSpec)

/-- ITS FALSE NEIGHBOUR: 'it returns false'. Refute it at one input. -/
def scoreNoneWrong : ChangeSpec := { name := "scoreNone", fn := fun _ => fun
  | [d1, d2] => { results := [.lit (.bool false)], args := [d1, d2] }
  | _ => none }
def ScoreNoneWrongFalsely : Prop := scoreNoneRow.holds Tryd.pinned (OpenSpec.ofChange scoreNoneWrong)

/-- 'mudlarklaw14.ScoreSealed': WHATEVER THE INPUT: true; the input reads as it did. -/
def scoreSealedSpec : ChangeSpec := { name := "scoreSealed", fn := fun _ => fun
  | [d1, d2] => { results := [.lit (.bool true)], args := [d1, d2] }
  | _ => none }
def scoreSealedRow : OpenClaim := { program := "ytkpnhggpcpjddaadoor", sum := "b9f1b70b386f03599f111a718163ea11f33c38cf872601d110c806336887d6ec", func := "mudlark/mudlarklaw14.ScoreSealed", spec := "scoreSealed", inPlace := ["internal/bytealg.IndexByte", "internal/bytealg.Index"], unfollowed := true, recurses := true, named := ["mudlark/head.magics", "internal/bytealg.MaxLen", "unicode/utf8.first", "unicode/utf8.acceptRanges"], apart := false, laid := [("unicode/utf8.acceptRanges", laid_unicode_utf8_acceptRanges), ("mudlark/head.magics", laid_mudlark_head_magics), ("unicode/utf8.first", laid_unicode_utf8_first)] }
def ScoreSealedSaid : Prop := scoreSealedRow.holds Tryd.pinned (OpenSpec.ofChange scoreSealedSpec)

/-- ITS FALSE NEIGHBOUR: 'it returns false'. Refute it at one input. -/
def scoreSealedWrong : ChangeSpec := { name := "scoreSealed", fn := fun _ => fun
  | [d1, d2] => { results := [.lit (.bool false)], args := [d1, d2] }
  | _ => none }
def ScoreSealedWrongFalsely : Prop := scoreSealedRow.holds Tryd.pinned (OpenSpec.ofChange scoreSealedWrong)

/-- 'mudlarklaw14.ScoreHeaders': WHATEVER THE INPUT: true; the input reads as it did. -/
def scoreHeadersSpec : ChangeSpec := { name := "scoreHeaders", fn := fun _ => fun
  | [d1, d2] => { results := [.lit (.bool true)], args := [d1, d2] }
  | _ => none }
def scoreHeadersRow : OpenClaim := { program := "ytkpnhggpcpjddaadoor", sum := "b9f1b70b386f03599f111a718163ea11f33c38cf872601d110c806336887d6ec", func := "mudlark/mudlarklaw14.ScoreHeaders", spec := "scoreHeaders", inPlace := ["internal/bytealg.IndexByte", "internal/bytealg.Index"], unfollowed := true, recurses := true, named := ["mudlark/head.magics", "internal/bytealg.MaxLen", "unicode/utf8.first", "unicode/utf8.acceptRanges"], apart := false, laid := [("unicode/utf8.acceptRanges", laid_unicode_utf8_acceptRanges), ("mudlark/head.magics", laid_mudlark_head_magics), ("unicode/utf8.first", laid_unicode_utf8_first)] }
def ScoreHeadersSaid : Prop := scoreHeadersRow.holds Tryd.pinned (OpenSpec.ofChange scoreHeadersSpec)

/-- ITS FALSE NEIGHBOUR: 'it returns false'. Refute it at one input. -/
def scoreHeadersWrong : ChangeSpec := { name := "scoreHeaders", fn := fun _ => fun
  | [d1, d2] => { results := [.lit (.bool false)], args := [d1, d2] }
  | _ => none }
def ScoreHeadersWrongFalsely : Prop := scoreHeadersRow.holds Tryd.pinned (OpenSpec.ofChange scoreHeadersWrong)

/- THE SECOND FORM. 'bulk': how many values and letters a reading holds, each counted each time it is reached (what is shared counts as often as it is met; a slice's spare places count too). A statement '..UptoSaid' is the law's where the arguments, and the package variables that the reading takes, are together of bulk at most 1048576: NARROWER than '..Said'. Prove '..Said' where nothing that the law and all that it calls make is longer than what came in: it says more and counts as full. Else prove '..UptoSaid'. A law counts once. -/
mutual
def uptoBulk {H : Type} : DataW H → Nat
  | .lit (.string bytes) => bytes.length + 1
  | .lit _ => 1
  | .nil => 1
  | .ptr d => uptoBulk d + 1
  | .slice elems spare => uptoBulkAll elems + uptoBulkAll spare + 1
  | .agg parts => uptoBulkAll parts + 1
  | .iface _ d => uptoBulk d + 1
  | .map entries => uptoBulkEntries entries + 1
  | .held _ => 1
def uptoBulkAll {H : Type} : List (DataW H) → Nat
  | [] => 0
  | d :: r => uptoBulk d + uptoBulkAll r
def uptoBulkEntries {H : Type} : List (Lit × DataW H) → Nat
  | [] => 0
  | x :: r => uptoBulkEntry x + uptoBulkEntries r
def uptoBulkEntry {H : Type} : Lit × DataW H → Nat
  | (.string bytes, d) => bytes.length + uptoBulk d + 1
  | (_, d) => uptoBulk d + 1
 end
def uptoSmall : (H : Type) → List (DataW H) → Bool := fun _ ds => decide (uptoBulkAll ds ≤ 1048576)
def OpenSpec.upto (s : _root_.Go.ChangeSpec) : _root_.Go.OpenSpec := { _root_.Go.OpenSpec.ofChange s with cond := some uptoSmall }

/-- 'mudlarklaw14.ScoreNone', WHERE WHAT IT READS IS OF BULK AT MOST 1048576: true; the input reads as it did. -/
def scoreNoneUptoRow : OpenClaim := { program := "ytkpnhggpcpjddaadoor", sum := "b9f1b70b386f03599f111a718163ea11f33c38cf872601d110c806336887d6ec", func := "mudlark/mudlarklaw14.ScoreNone", spec := "scoreNone", inPlace := ["internal/bytealg.IndexByte", "internal/bytealg.Index"], unfollowed := true, recurses := true, named := ["mudlark/head.magics", "internal/bytealg.MaxLen", "unicode/utf8.first", "unicode/utf8.acceptRanges"], apart := false, laid := [("unicode/utf8.acceptRanges", laid_unicode_utf8_acceptRanges), ("mudlark/head.magics", laid_mudlark_head_magics), ("unicode/utf8.first", laid_unicode_utf8_first)], narrowed := true }
def ScoreNoneUptoSaid : Prop := scoreNoneUptoRow.holds Tryd.pinned (OpenSpec.upto scoreNoneSpec)

/-- 'mudlarklaw14.ScoreSealed', WHERE WHAT IT READS IS OF BULK AT MOST 1048576: true; the input reads as it did. -/
def scoreSealedUptoRow : OpenClaim := { program := "ytkpnhggpcpjddaadoor", sum := "b9f1b70b386f03599f111a718163ea11f33c38cf872601d110c806336887d6ec", func := "mudlark/mudlarklaw14.ScoreSealed", spec := "scoreSealed", inPlace := ["internal/bytealg.IndexByte", "internal/bytealg.Index"], unfollowed := true, recurses := true, named := ["mudlark/head.magics", "internal/bytealg.MaxLen", "unicode/utf8.first", "unicode/utf8.acceptRanges"], apart := false, laid := [("unicode/utf8.acceptRanges", laid_unicode_utf8_acceptRanges), ("mudlark/head.magics", laid_mudlark_head_magics), ("unicode/utf8.first", laid_unicode_utf8_first)], narrowed := true }
def ScoreSealedUptoSaid : Prop := scoreSealedUptoRow.holds Tryd.pinned (OpenSpec.upto scoreSealedSpec)

/-- 'mudlarklaw14.ScoreHeaders', WHERE WHAT IT READS IS OF BULK AT MOST 1048576: true; the input reads as it did. -/
def scoreHeadersUptoRow : OpenClaim := { program := "ytkpnhggpcpjddaadoor", sum := "b9f1b70b386f03599f111a718163ea11f33c38cf872601d110c806336887d6ec", func := "mudlark/mudlarklaw14.ScoreHeaders", spec := "scoreHeaders", inPlace := ["internal/bytealg.IndexByte", "internal/bytealg.Index"], unfollowed := true, recurses := true, named := ["mudlark/head.magics", "internal/bytealg.MaxLen", "unicode/utf8.first", "unicode/utf8.acceptRanges"], apart := false, laid := [("unicode/utf8.acceptRanges", laid_unicode_utf8_acceptRanges), ("mudlark/head.magics", laid_mudlark_head_magics), ("unicode/utf8.first", laid_unicode_utf8_first)], narrowed := true }
def ScoreHeadersUptoSaid : Prop := scoreHeadersUptoRow.holds Tryd.pinned (OpenSpec.upto scoreHeadersSpec)

end Rows
end Go.Proofs.YtkpnhggpcpjddaaDoor
