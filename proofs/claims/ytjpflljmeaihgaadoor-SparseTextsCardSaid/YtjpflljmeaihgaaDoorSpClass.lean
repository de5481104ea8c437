/-
  A region that draws its order, whose operations read and whose callees leave a class of worlds: one walk, in the order of the text.
-/
import Derived.Test.YtjpflljmeaihgaaDoorSpMem
import Derived.Deep.QuietTactic
import Derived.Laws.StructEq
namespace Go.Proofs.YtjpflljmeaihgaaDoor
open Go.RowKit

theorem wp_region_class {P : Program} {id : Nat} {Q : Exit → Act → World → Prop} {a : Act} {w : World} {l : List Oper} (C : World → Prop) (hm : P.follows .mixedOrders = true) (hB : Region.lexB .any l.toArray = true) (hC : C w.drew)
    (h : wpQuiet P l.toArray C (fun a' => ∀ w', C w' → Q .normal a' w') l a) : (Code.region id l.toArray true).wp P Q a w :=
  wp_region_quiet (C := C) hm hB hC (by simpa using h)
end Go.Proofs.YtjpflljmeaihgaaDoor
