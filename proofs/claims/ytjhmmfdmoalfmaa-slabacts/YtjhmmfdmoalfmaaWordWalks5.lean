/-
  Contract of the document's table of rows (vergeref02.rows) and of its answer for what comes of an event (vergeref02.Next).
-/
import Derived.Test.YtjhmmfdmoalfmaaWordWalks4
import Derived.Test.YtjhmmfdmoalfmaaWordTable
import Derived.Great.Walk
import Derived.Below
namespace Go.Proofs.Ytjhmmfdmoalfmaa
open Go.RowKit Verge
attribute [local go_sem] Oper.semAt_some
set_option linter.unusedVariables false

def rwCells (r : Rw) : List Value := [.int .i64 (r.1 : Nat), .int .i64 (r.2.1 : Nat), .bool r.2.2.1, .int .i64 (r.2.2.2.1 : Nat), .int .u64 (r.2.2.2.2.1 : Nat), .int .i64 (r.2.2.2.2.2 : Nat)]
def tabCells : Array Value := (tab.flatMap rwCells).toArray

set_option maxHeartbeats 4000000 in
set_option maxRecDepth 100000 in
theorem rows_any (w : World) :
    Calls Try.prog 46 #[] w fun e w' => e = .returned (.slice (some ⟨w.heap.size, 0, none⟩) 18 18) ∧ w.alloc (.cells tabCells 106) = w' := by
  go_enter Try.func46, Try.ntmps46
  go_wp2_with (refine Go.Great.wpList_buildSliceTo rfl 103 106 18 _ rfl _ rfl _ rfl (by kernel_rfl) tabCells (by kernel_rfl) ?_)
  go_ret
  exact ⟨rfl, rfl⟩
end Go.Proofs.Ytjhmmfdmoalfmaa
