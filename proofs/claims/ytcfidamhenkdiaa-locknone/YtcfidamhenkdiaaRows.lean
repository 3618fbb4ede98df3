/-
  No cell of these rows narrows 'for every input' (looked for: loops, veiled, ifaces, maps, wideKeys, modest, calm, conditions, laid).
  DERIVED. THE GIVEN ROWS OF THIS SEAT. 4 by the template 'for every input the law returns true; each argument reads behind the call as it read before'; 0 by the template 'total and deterministic' (their statements: YtcfidamhenkdiaaTotals.lean).
  GIVEN WITH THE SEED: the statements are not yours to turn. If you find one false, say at which input.
  Laid BY PROGRAM, IN A SANDBOX (cutbox-rows.mjs): the forced cells as the released guide's own fill.sh prints them over the translation 4aea2d4f7b7f71fe… (all of the seat's roots in one cut). By AI agents, Wed Nov 11 2026. No macro, syntax, notation, axiom, sorry.
-/
import Derived.Test.YtcfidamhenkdiaaChecked
import GoSem.Claim
import GoSem.ClaimJoined
import GoSem.ClaimMapViews
import Derived.JoinedTies
import Derived.KernelRfl
namespace Go.Proofs.Ytcfidamhenkdiaa
/- THE CELL 'sum', in the pinned program and in every row, IS THE sha256 OF THE DUMP (.gsa) THAT YtcfidamhenkdiaaProg.lean LOADS. Nothing in Lean hashes anything: it is a label: what it is worth is what the hold of that sum in a sandbox is worth. -/
noncomputable def Try.pinned : Pinned := { name := "ytcfidamhenkdiaa", sum := "4aea2d4f7b7f71fe2c4d7d1791ddccc33c7257885a955452077e8d28a7d2c0c9", checked := Try.checked }
namespace Rows
def none {H : Type} : Left H := { results := [], args := [] }

/-- 'vergelaw10.LockActs': WHATEVER THE INPUT: true; the input reads as it did. -/
def lockActsSpec : ChangeSpec := { name := "lockActs", fn := fun _ => fun
  | [d1, d2] => { results := [.lit (.bool true)], args := [d1, d2] }
  | _ => none }
def lockActsRow : OpenClaim := { program := "ytcfidamhenkdiaa", sum := "4aea2d4f7b7f71fe2c4d7d1791ddccc33c7257885a955452077e8d28a7d2c0c9", func := "verge/vergelaw10.LockActs", spec := "lockActs", unfollowed := true, recurses := true, apart := false }
def LockActsSaid : Prop := lockActsRow.holds Try.pinned (OpenSpec.ofChange lockActsSpec)

/-- ITS FALSE NEIGHBOUR: 'it returns false'. Refute it at one input. -/
def lockActsWrong : ChangeSpec := { name := "lockActs", fn := fun _ => fun
  | [d1, d2] => { results := [.lit (.bool false)], args := [d1, d2] }
  | _ => none }
def LockActsWrongFalsely : Prop := lockActsRow.holds Try.pinned (OpenSpec.ofChange lockActsWrong)

/-- 'vergelaw10.LockAlone': WHATEVER THE INPUT: true; the input reads as it did. -/
def lockAloneSpec : ChangeSpec := { name := "lockAlone", fn := fun _ => fun
  | [d] => { results := [.lit (.bool true)], args := [d] }
  | _ => none }
def lockAloneRow : OpenClaim := { program := "ytcfidamhenkdiaa", sum := "4aea2d4f7b7f71fe2c4d7d1791ddccc33c7257885a955452077e8d28a7d2c0c9", func := "verge/vergelaw10.LockAlone", spec := "lockAlone", unfollowed := true, recurses := true, apart := false }
def LockAloneSaid : Prop := lockAloneRow.holds Try.pinned (OpenSpec.ofChange lockAloneSpec)

/-- ITS FALSE NEIGHBOUR: 'it returns false'. Refute it at one input. -/
def lockAloneWrong : ChangeSpec := { name := "lockAlone", fn := fun _ => fun
  | [d] => { results := [.lit (.bool false)], args := [d] }
  | _ => none }
def LockAloneWrongFalsely : Prop := lockAloneRow.holds Try.pinned (OpenSpec.ofChange lockAloneWrong)

/-- 'vergelaw10.LockNone': WHATEVER THE INPUT: true; the input reads as it did. -/
def lockNoneSpec : ChangeSpec := { name := "lockNone", fn := fun _ => fun
  | [d] => { results := [.lit (.bool true)], args := [d] }
  | _ => none }
def lockNoneRow : OpenClaim := { program := "ytcfidamhenkdiaa", sum := "4aea2d4f7b7f71fe2c4d7d1791ddccc33c7257885a955452077e8d28a7d2c0c9", func := "verge/vergelaw10.LockNone", spec := "lockNone", unfollowed := true, recurses := true, apart := false }
def LockNoneSaid : Prop := lockNoneRow.holds Try.pinned (OpenSpec.ofChange lockNoneSpec)

/-- ITS FALSE NEIGHBOUR: 'it returns false'. Refute it at one input. -/
def lockNoneWrong : ChangeSpec := { name := "lockNone", fn := fun _ => fun
  | [d] => { results := [.lit (.bool false)], args := [d] }
  | _ => none }
def LockNoneWrongFalsely : Prop := lockNoneRow.holds Try.pinned (OpenSpec.ofChange lockNoneWrong)

/-- 'vergelaw10.LockCounts': WHATEVER THE INPUT: true; the input reads as it did. -/
def lockCountsSpec : ChangeSpec := { name := "lockCounts", fn := fun _ => fun
  | [d] => { results := [.lit (.bool true)], args := [d] }
  | _ => none }
def lockCountsRow : OpenClaim := { program := "ytcfidamhenkdiaa", sum := "4aea2d4f7b7f71fe2c4d7d1791ddccc33c7257885a955452077e8d28a7d2c0c9", func := "verge/vergelaw10.LockCounts", spec := "lockCounts", unfollowed := true, recurses := true, apart := false }
def LockCountsSaid : Prop := lockCountsRow.holds Try.pinned (OpenSpec.ofChange lockCountsSpec)

/-- ITS FALSE NEIGHBOUR: 'it returns false'. Refute it at one input. -/
def lockCountsWrong : ChangeSpec := { name := "lockCounts", fn := fun _ => fun
  | [d] => { results := [.lit (.bool false)], args := [d] }
  | _ => none }
def LockCountsWrongFalsely : Prop := lockCountsRow.holds Try.pinned (OpenSpec.ofChange lockCountsWrong)

/- THE SECOND FORM. 'bulk': how many values and letters a reading holds, each counted each time it is reached (what is shared counts as often as it is met; a slice's spare places count too). A statement '..UptoSaid' is the law's where the arguments, and the package variables that the reading takes, are together of bulk at most 1048576: NARROWER than '..Said'. Prove '..Said' where nothing that the law and all that it calls make is longer than what came in: it says more and counts as full. Else prove '..UptoSaid'. A law counts once. -/
mutual
def uptoBulk {H : Type} : DataW H → Nat
  | .lit (.string bytes) => bytes.length + 1
  | .lit _ => 1
  | .nil => 1
  | .ptr d => uptoBulk d + 1
  | .slice elems spare => uptoBulkAll elems + uptoBulkAll spare + 1
  | .agg parts => uptoBulkAll parts + 1
  | .iface _ d => uptoBulk d + 1
  | .map entries => uptoBulkEntries entries + 1
  | .held _ => 1
def uptoBulkAll {H : Type} : List (DataW H) → Nat
  | [] => 0
  | d :: r => uptoBulk d + uptoBulkAll r
def uptoBulkEntries {H : Type} : List (Lit × DataW H) → Nat
  | [] => 0
  | x :: r => uptoBulkEntry x + uptoBulkEntries r
def uptoBulkEntry {H : Type} : Lit × DataW H → Nat
  | (.string bytes, d) => bytes.length + uptoBulk d + 1
  | (_, d) => uptoBulk d + 1
 end
def uptoSmall : (H : Type) → List (DataW H) → Bool := fun _ ds => decide (uptoBulkAll ds ≤ 1048576)
def OpenSpec.upto (s : _root_.Go.ChangeSpec) : _root_.Go.OpenSpec := { _root_.Go.OpenSpec.ofChange s with cond := some uptoSmall }

/-- 'vergelaw10.LockActs', WHERE WHAT IT READS IS OF BULK AT MOST 1048576: true; the input reads as it did. -/
def lockActsUptoRow : OpenClaim := { program := "ytcfidamhenkdiaa", sum := "4aea2d4f7b7f71fe2c4d7d1791ddccc33c7257885a955452077e8d28a7d2c0c9", func := "verge/vergelaw10.LockActs", spec := "lockActs", unfollowed := true, recurses := true, apart := false, narrowed := true }
def LockActsUptoSaid : Prop := lockActsUptoRow.holds Try.pinned (OpenSpec.upto lockActsSpec)

/-- 'vergelaw10.LockAlone', WHERE WHAT IT READS IS OF BULK AT MOST 1048576: true; the input reads as it did. -/
def lockAloneUptoRow : OpenClaim := { program := "ytcfidamhenkdiaa", sum := "4aea2d4f7b7f71fe2c4d7d1791ddccc33c7257885a955452077e8d28a7d2c0c9", func := "verge/vergelaw10.LockAlone", spec := "lockAlone", unfollowed := true, recurses := true, apart := false, narrowed := true }
def LockAloneUptoSaid : Prop := lockAloneUptoRow.holds Try.pinned (OpenSpec.upto lockAloneSpec)

/-- 'vergelaw10.LockNone', WHERE WHAT IT READS IS OF BULK AT MOST 1048576: true; the input reads as it did. -/
def lockNoneUptoRow : OpenClaim := { program := "ytcfidamhenkdiaa", sum := "4aea2d4f7b7f71fe2c4d7d1791ddccc33c7257885a955452077e8d28a7d2c0c9", func := "verge/vergelaw10.LockNone", spec := "lockNone", unfollowed := true, recurses := true, apart := false, narrowed := true }
def LockNoneUptoSaid : Prop := lockNoneUptoRow.holds Try.pinned (OpenSpec.upto lockNoneSpec)

/-- 'vergelaw10.LockCounts', WHERE WHAT IT READS IS OF BULK AT MOST 1048576: true; the input reads as it did. -/
def lockCountsUptoRow : OpenClaim := { program := "ytcfidamhenkdiaa", sum := "4aea2d4f7b7f71fe2c4d7d1791ddccc33c7257885a955452077e8d28a7d2c0c9", func := "verge/vergelaw10.LockCounts", spec := "lockCounts", unfollowed := true, recurses := true, apart := false, narrowed := true }
def LockCountsUptoSaid : Prop := lockCountsUptoRow.holds Try.pinned (OpenSpec.upto lockCountsSpec)

end Rows
end Go.Proofs.Ytcfidamhenkdiaa
