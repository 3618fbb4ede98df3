/-
  What turned, told upwards: small laws for several objects side by side.
-/
import Derived.Test.YtkfknafgknppdaaDoorLevelPlain
import Derived.Test.YtkfknafgknppdaaDoorCellMem
namespace Go.Proofs.YtkfknafgknppdaaDoor
open Go.RowKit
set_option linter.unusedVariables false
theorem Ch.up {S : Nat → Prop} {a b c : World} (h : Ch Nil a b) (k : Ch S b c) (hs : ∀ i, S i → a.heap.size ≤ i) : Ch Nil a c :=
  h.then k fun i hi e => by have := hs i e; omega
end Go.Proofs.YtkfknafgknppdaaDoor
