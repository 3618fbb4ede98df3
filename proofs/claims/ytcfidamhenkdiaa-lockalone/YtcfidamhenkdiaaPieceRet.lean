/-
  A loop whose rounds may return true: what is told of such a return.
-/
import Derived.Test.YtcfidamhenkdiaaPieceCode
import Derived.Test.YtcfidamhenkdiaaCellMem
namespace Go.Proofs.Ytcfidamhenkdiaa
open Go.RowKit
set_option linter.unusedVariables false
/-- true is returned (in slot rs), and nothing that was there in w has turned -/
def RetT (rs : Nat) (w : World) (a : Act) (wr : World) : Prop := a.defers = [] ∧ a.tmps.getD rs undef = .bool true ∧ Ch Nil w wr
theorem ret_done {P : Program} {fn : Func} {rs : Nat} {w wr : World} {a : Act} (hr : fn.results = #[.tmp rs]) (h : RetT rs w a wr) :
    bodyPost P fn (fun e w' => e = .returned (.bool true) ∧ Below w.heap.size w w') .ret a wr := by
  obtain ⟨hd, hv, c⟩ := h
  refine bodyPost_ret (v := .bool true) ?_ hd ⟨rfl, c.below (Nat.le_refl _) (fun _ _ e => e.elim)⟩
  rw [results_tmp hr, hv]
end Go.Proofs.Ytcfidamhenkdiaa
