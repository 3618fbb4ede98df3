/-
  No cell of these rows narrows 'for every input' (looked for: loops, veiled, ifaces, maps, wideKeys, modest, calm, conditions, laid).
  DERIVED. THE GIVEN ROWS OF THIS SEAT. 5 by the template 'for every input the law returns true; each argument reads behind the call as it read before'; 0 by the template 'total and deterministic' (their statements: YtkialefhjfoniaaTotals.lean).
  GIVEN WITH THE SEED: the statements are not yours to turn. If you find one false, say at which input.
  Laid BY PROGRAM, IN A SANDBOX (cutbox-rows.mjs): the forced cells as the released guide's own fill.sh prints them over the translation 2f1e89f1661e8b5b… (all of the seat's roots in one cut). By AI agents, Wed Nov 11 2026. No macro, syntax, notation, axiom, sorry.
-/
import Derived.Test.YtkialefhjfoniaaChecked
import GoSem.Claim
import GoSem.ClaimJoined
import GoSem.ClaimMapViews
import Derived.JoinedTies
import Derived.KernelRfl
namespace Go.Proofs.Ytkialefhjfoniaa
/- THE CELL 'sum', in the pinned program and in every row, IS THE sha256 OF THE DUMP (.gsa) THAT YtkialefhjfoniaaProg.lean LOADS. Nothing in Lean hashes anything: it is a label: what it is worth is what the hold of that sum in a sandbox is worth. -/
noncomputable def Try.pinned : Pinned := { name := "ytkialefhjfoniaa", sum := "2f1e89f1661e8b5ba2e83047b5bc7c3d31faece0f6346f5c90edffdf6acc1ae4", checked := Try.checked }
namespace Rows
def none {H : Type} : Left H := { results := [], args := [] }

/-- 'vergelaw14.FloorMade': WHATEVER THE INPUT: true; the input reads as it did. -/
def floorMadeSpec : ChangeSpec := { name := "floorMade", fn := fun _ => fun
  | [d1, d2] => { results := [.lit (.bool true)], args := [d1, d2] }
  | _ => none }
def floorMadeRow : OpenClaim := { program := "ytkialefhjfoniaa", sum := "2f1e89f1661e8b5ba2e83047b5bc7c3d31faece0f6346f5c90edffdf6acc1ae4", func := "verge/vergelaw14.FloorMade", spec := "floorMade", unfollowed := true, recurses := true, apart := false }
def FloorMadeSaid : Prop := floorMadeRow.holds Try.pinned (OpenSpec.ofChange floorMadeSpec)

/-- ITS FALSE NEIGHBOUR: 'it returns false'. Refute it at one input. -/
def floorMadeWrong : ChangeSpec := { name := "floorMade", fn := fun _ => fun
  | [d1, d2] => { results := [.lit (.bool false)], args := [d1, d2] }
  | _ => none }
def FloorMadeWrongFalsely : Prop := floorMadeRow.holds Try.pinned (OpenSpec.ofChange floorMadeWrong)

/-- 'vergelaw14.FloorActs': WHATEVER THE INPUT: true; the input reads as it did. -/
def floorActsSpec : ChangeSpec := { name := "floorActs", fn := fun _ => fun
  | [d] => { results := [.lit (.bool true)], args := [d] }
  | _ => none }
def floorActsRow : OpenClaim := { program := "ytkialefhjfoniaa", sum := "2f1e89f1661e8b5ba2e83047b5bc7c3d31faece0f6346f5c90edffdf6acc1ae4", func := "verge/vergelaw14.FloorActs", spec := "floorActs", unfollowed := true, recurses := true, apart := false }
def FloorActsSaid : Prop := floorActsRow.holds Try.pinned (OpenSpec.ofChange floorActsSpec)

/-- ITS FALSE NEIGHBOUR: 'it returns false'. Refute it at one input. -/
def floorActsWrong : ChangeSpec := { name := "floorActs", fn := fun _ => fun
  | [d] => { results := [.lit (.bool false)], args := [d] }
  | _ => none }
def FloorActsWrongFalsely : Prop := floorActsRow.holds Try.pinned (OpenSpec.ofChange floorActsWrong)

/-- 'vergelaw14.FloorHomes': WHATEVER THE INPUT: true; the input reads as it did. -/
def floorHomesSpec : ChangeSpec := { name := "floorHomes", fn := fun _ => fun
  | [d1, d2, d3] => { results := [.lit (.bool true)], args := [d1, d2, d3] }
  | _ => none }
def floorHomesRow : OpenClaim := { program := "ytkialefhjfoniaa", sum := "2f1e89f1661e8b5ba2e83047b5bc7c3d31faece0f6346f5c90edffdf6acc1ae4", func := "verge/vergelaw14.FloorHomes", spec := "floorHomes", unfollowed := true, recurses := true, apart := false }
def FloorHomesSaid : Prop := floorHomesRow.holds Try.pinned (OpenSpec.ofChange floorHomesSpec)

/-- ITS FALSE NEIGHBOUR: 'it returns false'. Refute it at one input. -/
def floorHomesWrong : ChangeSpec := { name := "floorHomes", fn := fun _ => fun
  | [d1, d2, d3] => { results := [.lit (.bool false)], args := [d1, d2, d3] }
  | _ => none }
def FloorHomesWrongFalsely : Prop := floorHomesRow.holds Try.pinned (OpenSpec.ofChange floorHomesWrong)

/-- 'vergelaw14.FloorNumbers': WHATEVER THE INPUT: true; the input reads as it did. -/
def floorNumbersSpec : ChangeSpec := { name := "floorNumbers", fn := fun _ => fun
  | [d1, d2, d3] => { results := [.lit (.bool true)], args := [d1, d2, d3] }
  | _ => none }
def floorNumbersRow : OpenClaim := { program := "ytkialefhjfoniaa", sum := "2f1e89f1661e8b5ba2e83047b5bc7c3d31faece0f6346f5c90edffdf6acc1ae4", func := "verge/vergelaw14.FloorNumbers", spec := "floorNumbers", unfollowed := true, recurses := true, apart := false }
def FloorNumbersSaid : Prop := floorNumbersRow.holds Try.pinned (OpenSpec.ofChange floorNumbersSpec)

/-- ITS FALSE NEIGHBOUR: 'it returns false'. Refute it at one input. -/
def floorNumbersWrong : ChangeSpec := { name := "floorNumbers", fn := fun _ => fun
  | [d1, d2, d3] => { results := [.lit (.bool false)], args := [d1, d2, d3] }
  | _ => none }
def FloorNumbersWrongFalsely : Prop := floorNumbersRow.holds Try.pinned (OpenSpec.ofChange floorNumbersWrong)

/-- 'vergelaw14.FloorNone': WHATEVER THE INPUT: true; the input reads as it did. -/
def floorNoneSpec : ChangeSpec := { name := "floorNone", fn := fun _ => fun
  | [d1, d2] => { results := [.lit (.bool true)], args := [d1, d2] }
  | _ => none }
def floorNoneRow : OpenClaim := { program := "ytkialefhjfoniaa", sum := "2f1e89f1661e8b5ba2e83047b5bc7c3d31faece0f6346f5c90edffdf6acc1ae4", func := "verge/vergelaw14.FloorNone", spec := "floorNone", unfollowed := true, recurses := true, apart := false }
def FloorNoneSaid : Prop := floorNoneRow.holds Try.pinned (OpenSpec.ofChange floorNoneSpec)

/-- ITS FALSE NEIGHBOUR: 'it returns false'. Refute it at one input. -/
def floorNoneWrong : ChangeSpec := { name := "floorNone", fn := fun _ => fun
  | [d1, d2] => { results := [.lit (.bool false)], args := [d1, d2] }
  | _ => none }
def FloorNoneWrongFalsely : Prop := floorNoneRow.holds Try.pinned (OpenSpec.ofChange floorNoneWrong)

/- THE SECOND FORM. 'bulk': how many values and letters a reading holds, each counted each time it is reached (what is shared counts as often as it is met; a slice's spare places count too). A statement '..UptoSaid' is the law's where the arguments, and the package variables that the reading takes, are together of bulk at most 1048576: NARROWER than '..Said'. Prove '..Said' where nothing that the law and all that it calls make is longer than what came in: it says more and counts as full. Else prove '..UptoSaid'. A law counts once. -/
mutual
def uptoBulk {H : Type} : DataW H → Nat
  | .lit (.string bytes) => bytes.length + 1
  | .lit _ => 1
  | .nil => 1
  | .ptr d => uptoBulk d + 1
  | .slice elems spare => uptoBulkAll elems + uptoBulkAll spare + 1
  | .agg parts => uptoBulkAll parts + 1
  | .iface _ d => uptoBulk d + 1
  | .map entries => uptoBulkEntries entries + 1
  | .held _ => 1
def uptoBulkAll {H : Type} : List (DataW H) → Nat
  | [] => 0
  | d :: r => uptoBulk d + uptoBulkAll r
def uptoBulkEntries {H : Type} : List (Lit × DataW H) → Nat
  | [] => 0
  | x :: r => uptoBulkEntry x + uptoBulkEntries r
def uptoBulkEntry {H : Type} : Lit × DataW H → Nat
  | (.string bytes, d) => bytes.length + uptoBulk d + 1
  | (_, d) => uptoBulk d + 1
 end
def uptoSmall : (H : Type) → List (DataW H) → Bool := fun _ ds => decide (uptoBulkAll ds ≤ 1048576)
def OpenSpec.upto (s : _root_.Go.ChangeSpec) : _root_.Go.OpenSpec := { _root_.Go.OpenSpec.ofChange s with cond := some uptoSmall }

/-- 'vergelaw14.FloorMade', WHERE WHAT IT READS IS OF BULK AT MOST 1048576: true; the input reads as it did. -/
def floorMadeUptoRow : OpenClaim := { program := "ytkialefhjfoniaa", sum := "2f1e89f1661e8b5ba2e83047b5bc7c3d31faece0f6346f5c90edffdf6acc1ae4", func := "verge/vergelaw14.FloorMade", spec := "floorMade", unfollowed := true, recurses := true, apart := false, narrowed := true }
def FloorMadeUptoSaid : Prop := floorMadeUptoRow.holds Try.pinned (OpenSpec.upto floorMadeSpec)

/-- 'vergelaw14.FloorActs', WHERE WHAT IT READS IS OF BULK AT MOST 1048576: true; the input reads as it did. -/
def floorActsUptoRow : OpenClaim := { program := "ytkialefhjfoniaa", sum := "2f1e89f1661e8b5ba2e83047b5bc7c3d31faece0f6346f5c90edffdf6acc1ae4", func := "verge/vergelaw14.FloorActs", spec := "floorActs", unfollowed := true, recurses := true, apart := false, narrowed := true }
def FloorActsUptoSaid : Prop := floorActsUptoRow.holds Try.pinned (OpenSpec.upto floorActsSpec)

/-- 'vergelaw14.FloorHomes', WHERE WHAT IT READS IS OF BULK AT MOST 1048576: true; the input reads as it did. -/
def floorHomesUptoRow : OpenClaim := { program := "ytkialefhjfoniaa", sum := "2f1e89f1661e8b5ba2e83047b5bc7c3d31faece0f6346f5c90edffdf6acc1ae4", func := "verge/vergelaw14.FloorHomes", spec := "floorHomes", unfollowed := true, recurses := true, apart := false, narrowed := true }
def FloorHomesUptoSaid : Prop := floorHomesUptoRow.holds Try.pinned (OpenSpec.upto floorHomesSpec)

/-- 'vergelaw14.FloorNumbers', WHERE WHAT IT READS IS OF BULK AT MOST 1048576: true; the input reads as it did. -/
def floorNumbersUptoRow : OpenClaim := { program := "ytkialefhjfoniaa", sum := "2f1e89f1661e8b5ba2e83047b5bc7c3d31faece0f6346f5c90edffdf6acc1ae4", func := "verge/vergelaw14.FloorNumbers", spec := "floorNumbers", unfollowed := true, recurses := true, apart := false, narrowed := true }
def FloorNumbersUptoSaid : Prop := floorNumbersUptoRow.holds Try.pinned (OpenSpec.upto floorNumbersSpec)

/-- 'vergelaw14.FloorNone', WHERE WHAT IT READS IS OF BULK AT MOST 1048576: true; the input reads as it did. -/
def floorNoneUptoRow : OpenClaim := { program := "ytkialefhjfoniaa", sum := "2f1e89f1661e8b5ba2e83047b5bc7c3d31faece0f6346f5c90edffdf6acc1ae4", func := "verge/vergelaw14.FloorNone", spec := "floorNone", unfollowed := true, recurses := true, apart := false, narrowed := true }
def FloorNoneUptoSaid : Prop := floorNoneUptoRow.holds Try.pinned (OpenSpec.upto floorNoneSpec)

end Rows
end Go.Proofs.Ytkialefhjfoniaa
