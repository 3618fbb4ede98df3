import Derived.Test.YtnbdafmjcmmfpaaGreatRows
import Derived.WalkKit
import Derived.OpenShut
/-
  What a walk is told of a slice of integers that came in.
-/
namespace Go.Proofs.YtnbdafmjcmmfpaaGreat
set_option linter.unusedVariables false

/-- it is nil; or it leads to a row of 'cap' cells, the numbers 'zs' (the first 'len' are its elements, the rest its spare room), each fitting its kind -/
def IsRow (k : IntKind) (w : World) (a : Option Addr) (len cap : Nat) (zs : List Int) : Prop :=
  (a = none ∧ len = 0 ∧ cap = 0 ∧ zs = []) ∨
  ∃ x, a = some x ∧ len ≤ cap ∧ cap ≤ maxLen ∧ zs.length = cap ∧ (∀ i, i < zs.length → w.cell? (x.add i) = some (.int k (zs.getD i 0))) ∧ ∀ n ∈ zs, (Lit.int k n).wf = true

theorem IsRow.item {k : IntKind} {w : World} {a : Option Addr} {len cap : Nat} {zs : List Int} (h : IsRow k w a len cap zs) {i : Nat} (hi : i < len) :
    ∃ x, a = some x ∧ w.cell? (x.add i) = some (.int k (zs.getD i 0)) ∧ (Lit.int k (zs.getD i 0)).wf = true := by
  rcases h with ⟨-, rfl, -, -⟩ | ⟨x, ha, h1, -, h2, h3, h4⟩
  · omega
  · have hz : i < zs.length := by omega
    refine ⟨x, ha, h3 i hz, h4 _ ?_⟩
    rw [List.getD_eq_getElem?_getD, List.getElem?_eq_getElem hz]
    exact List.getElem_mem hz
theorem IsRow.small {k : IntKind} {w : World} {a : Option Addr} {len cap : Nat} {zs : List Int} (h : IsRow k w a len cap zs) : len ≤ maxLen := by
  rcases h with ⟨-, rfl, -, -⟩ | ⟨x, ha, h1, h2, -⟩
  · exact Nat.zero_le _
  · omega
end Go.Proofs.YtnbdafmjcmmfpaaGreat
