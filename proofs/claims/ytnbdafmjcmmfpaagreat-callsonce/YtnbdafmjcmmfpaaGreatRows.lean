/-
  No cell of these rows narrows 'for every input' (looked for: loops, veiled, ifaces, maps, wideKeys, modest, calm, conditions, laid).
  DERIVED. THE GIVEN ROWS OF THIS SEAT. 5 by the template 'for every input the law returns true; each argument reads behind the call as it read before'; 0 by the template 'total and deterministic' (their statements: YtnbdafmjcmmfpaaGreatTotals.lean).
  GIVEN WITH THE SEED: the statements are not yours to turn. If you find one false, say at which input.
  Laid BY PROGRAM, IN A SANDBOX (cutbox-rows.mjs): the forced cells as the released guide's own fill.sh prints them over the translation 3f568507735a79e5… (all of the seat's roots in one cut). By AI agents, Wed Nov 11 2026. No macro, syntax, notation, axiom, sorry.
-/
import Derived.Test.YtnbdafmjcmmfpaaGreatChecked
import GoSem.Claim
import GoSem.ClaimJoined
import GoSem.ClaimMapViews
import Derived.JoinedTies
import Derived.KernelRfl
namespace Go.Proofs.YtnbdafmjcmmfpaaGreat
/- THE CELL 'sum', in the pinned program and in every row, IS THE sha256 OF THE DUMP (.gsa) THAT YtnbdafmjcmmfpaaGreatProg.lean LOADS. Nothing in Lean hashes anything: it is a label: what it is worth is what the hold of that sum in a sandbox is worth. -/
noncomputable def Tryz.pinned : Pinned := { name := "ytnbdafmjcmmfpaagreat", sum := "3f568507735a79e57a420d4d9e9d340dd3506bb1e426530053cb07086ed0c447", checked := Tryz.checked }
namespace Rows
def none {H : Type} : Left H := { results := [], args := [] }

/-- 'vergelaw16.CallsOnce': WHATEVER THE INPUT: true; the input reads as it did. -/
def callsOnceSpec : ChangeSpec := { name := "callsOnce", fn := fun _ => fun
  | [d1, d2, d3, d4] => { results := [.lit (.bool true)], args := [d1, d2, d3, d4] }
  | _ => none }
def callsOnceRow : OpenClaim := { program := "ytnbdafmjcmmfpaagreat", sum := "3f568507735a79e57a420d4d9e9d340dd3506bb1e426530053cb07086ed0c447", func := "verge/vergelaw16.CallsOnce", spec := "callsOnce", unfollowed := true, recurses := true, apart := false }
def CallsOnceSaid : Prop := callsOnceRow.holds Tryz.pinned (OpenSpec.ofChange callsOnceSpec)

/-- ITS FALSE NEIGHBOUR: 'it returns false'. Refute it at one input. -/
def callsOnceWrong : ChangeSpec := { name := "callsOnce", fn := fun _ => fun
  | [d1, d2, d3, d4] => { results := [.lit (.bool false)], args := [d1, d2, d3, d4] }
  | _ => none }
def CallsOnceWrongFalsely : Prop := callsOnceRow.holds Tryz.pinned (OpenSpec.ofChange callsOnceWrong)

/-- 'vergelaw16.CallsRefused': WHATEVER THE INPUT: true; the input reads as it did. -/
def callsRefusedSpec : ChangeSpec := { name := "callsRefused", fn := fun _ => fun
  | [d1, d2, d3, d4, d5] => { results := [.lit (.bool true)], args := [d1, d2, d3, d4, d5] }
  | _ => none }
def callsRefusedRow : OpenClaim := { program := "ytnbdafmjcmmfpaagreat", sum := "3f568507735a79e57a420d4d9e9d340dd3506bb1e426530053cb07086ed0c447", func := "verge/vergelaw16.CallsRefused", spec := "callsRefused", unfollowed := true, recurses := true, apart := false }
def CallsRefusedSaid : Prop := callsRefusedRow.holds Tryz.pinned (OpenSpec.ofChange callsRefusedSpec)

/-- ITS FALSE NEIGHBOUR: 'it returns false'. Refute it at one input. -/
def callsRefusedWrong : ChangeSpec := { name := "callsRefused", fn := fun _ => fun
  | [d1, d2, d3, d4, d5] => { results := [.lit (.bool false)], args := [d1, d2, d3, d4, d5] }
  | _ => none }
def CallsRefusedWrongFalsely : Prop := callsRefusedRow.holds Tryz.pinned (OpenSpec.ofChange callsRefusedWrong)

/-- 'vergelaw16.CallsErrors': WHATEVER THE INPUT: true; the input reads as it did. -/
def callsErrorsSpec : ChangeSpec := { name := "callsErrors", fn := fun _ => fun
  | [d1, d2, d3, d4] => { results := [.lit (.bool true)], args := [d1, d2, d3, d4] }
  | _ => none }
def callsErrorsRow : OpenClaim := { program := "ytnbdafmjcmmfpaagreat", sum := "3f568507735a79e57a420d4d9e9d340dd3506bb1e426530053cb07086ed0c447", func := "verge/vergelaw16.CallsErrors", spec := "callsErrors", unfollowed := true, recurses := true, apart := false }
def CallsErrorsSaid : Prop := callsErrorsRow.holds Tryz.pinned (OpenSpec.ofChange callsErrorsSpec)

/-- ITS FALSE NEIGHBOUR: 'it returns false'. Refute it at one input. -/
def callsErrorsWrong : ChangeSpec := { name := "callsErrors", fn := fun _ => fun
  | [d1, d2, d3, d4] => { results := [.lit (.bool false)], args := [d1, d2, d3, d4] }
  | _ => none }
def CallsErrorsWrongFalsely : Prop := callsErrorsRow.holds Tryz.pinned (OpenSpec.ofChange callsErrorsWrong)

/-- 'vergelaw16.CallsNone': WHATEVER THE INPUT: true; the input reads as it did. -/
def callsNoneSpec : ChangeSpec := { name := "callsNone", fn := fun _ => fun
  | [d1, d2] => { results := [.lit (.bool true)], args := [d1, d2] }
  | _ => none }
def callsNoneRow : OpenClaim := { program := "ytnbdafmjcmmfpaagreat", sum := "3f568507735a79e57a420d4d9e9d340dd3506bb1e426530053cb07086ed0c447", func := "verge/vergelaw16.CallsNone", spec := "callsNone", unfollowed := true, recurses := true, apart := false }
def CallsNoneSaid : Prop := callsNoneRow.holds Tryz.pinned (OpenSpec.ofChange callsNoneSpec)

/-- ITS FALSE NEIGHBOUR: 'it returns false'. Refute it at one input. -/
def callsNoneWrong : ChangeSpec := { name := "callsNone", fn := fun _ => fun
  | [d1, d2] => { results := [.lit (.bool false)], args := [d1, d2] }
  | _ => none }
def CallsNoneWrongFalsely : Prop := callsNoneRow.holds Tryz.pinned (OpenSpec.ofChange callsNoneWrong)

/-- 'vergelaw16.CallsGone': WHATEVER THE INPUT: true; the input reads as it did. -/
def callsGoneSpec : ChangeSpec := { name := "callsGone", fn := fun _ => fun
  | [d1, d2, d3, d4] => { results := [.lit (.bool true)], args := [d1, d2, d3, d4] }
  | _ => none }
def callsGoneRow : OpenClaim := { program := "ytnbdafmjcmmfpaagreat", sum := "3f568507735a79e57a420d4d9e9d340dd3506bb1e426530053cb07086ed0c447", func := "verge/vergelaw16.CallsGone", spec := "callsGone", unfollowed := true, recurses := true, apart := false }
def CallsGoneSaid : Prop := callsGoneRow.holds Tryz.pinned (OpenSpec.ofChange callsGoneSpec)

/-- ITS FALSE NEIGHBOUR: 'it returns false'. Refute it at one input. -/
def callsGoneWrong : ChangeSpec := { name := "callsGone", fn := fun _ => fun
  | [d1, d2, d3, d4] => { results := [.lit (.bool false)], args := [d1, d2, d3, d4] }
  | _ => none }
def CallsGoneWrongFalsely : Prop := callsGoneRow.holds Tryz.pinned (OpenSpec.ofChange callsGoneWrong)

/- THE SECOND FORM. 'bulk': how many values and letters a reading holds, each counted each time it is reached (what is shared counts as often as it is met; a slice's spare places count too). A statement '..UptoSaid' is the law's where the arguments, and the package variables that the reading takes, are together of bulk at most 1048576: NARROWER than '..Said'. Prove '..Said' where nothing that the law and all that it calls make is longer than what came in: it says more and counts as full. Else prove '..UptoSaid'. A law counts once. -/
mutual
def uptoBulk {H : Type} : DataW H → Nat
  | .lit (.string bytes) => bytes.length + 1
  | .lit _ => 1
  | .nil => 1
  | .ptr d => uptoBulk d + 1
  | .slice elems spare => uptoBulkAll elems + uptoBulkAll spare + 1
  | .agg parts => uptoBulkAll parts + 1
  | .iface _ d => uptoBulk d + 1
  | .map entries => uptoBulkEntries entries + 1
  | .held _ => 1
def uptoBulkAll {H : Type} : List (DataW H) → Nat
  | [] => 0
  | d :: r => uptoBulk d + uptoBulkAll r
def uptoBulkEntries {H : Type} : List (Lit × DataW H) → Nat
  | [] => 0
  | x :: r => uptoBulkEntry x + uptoBulkEntries r
def uptoBulkEntry {H : Type} : Lit × DataW H → Nat
  | (.string bytes, d) => bytes.length + uptoBulk d + 1
  | (_, d) => uptoBulk d + 1
 end
def uptoSmall : (H : Type) → List (DataW H) → Bool := fun _ ds => decide (uptoBulkAll ds ≤ 1048576)
def OpenSpec.upto (s : _root_.Go.ChangeSpec) : _root_.Go.OpenSpec := { _root_.Go.OpenSpec.ofChange s with cond := some uptoSmall }

/-- 'vergelaw16.CallsOnce', WHERE WHAT IT READS IS OF BULK AT MOST 1048576: true; the input reads as it did. -/
def callsOnceUptoRow : OpenClaim := { program := "ytnbdafmjcmmfpaagreat", sum := "3f568507735a79e57a420d4d9e9d340dd3506bb1e426530053cb07086ed0c447", func := "verge/vergelaw16.CallsOnce", spec := "callsOnce", unfollowed := true, recurses := true, apart := false, narrowed := true }
def CallsOnceUptoSaid : Prop := callsOnceUptoRow.holds Tryz.pinned (OpenSpec.upto callsOnceSpec)

/-- 'vergelaw16.CallsRefused', WHERE WHAT IT READS IS OF BULK AT MOST 1048576: true; the input reads as it did. -/
def callsRefusedUptoRow : OpenClaim := { program := "ytnbdafmjcmmfpaagreat", sum := "3f568507735a79e57a420d4d9e9d340dd3506bb1e426530053cb07086ed0c447", func := "verge/vergelaw16.CallsRefused", spec := "callsRefused", unfollowed := true, recurses := true, apart := false, narrowed := true }
def CallsRefusedUptoSaid : Prop := callsRefusedUptoRow.holds Tryz.pinned (OpenSpec.upto callsRefusedSpec)

/-- 'vergelaw16.CallsErrors', WHERE WHAT IT READS IS OF BULK AT MOST 1048576: true; the input reads as it did. -/
def callsErrorsUptoRow : OpenClaim := { program := "ytnbdafmjcmmfpaagreat", sum := "3f568507735a79e57a420d4d9e9d340dd3506bb1e426530053cb07086ed0c447", func := "verge/vergelaw16.CallsErrors", spec := "callsErrors", unfollowed := true, recurses := true, apart := false, narrowed := true }
def CallsErrorsUptoSaid : Prop := callsErrorsUptoRow.holds Tryz.pinned (OpenSpec.upto callsErrorsSpec)

/-- 'vergelaw16.CallsNone', WHERE WHAT IT READS IS OF BULK AT MOST 1048576: true; the input reads as it did. -/
def callsNoneUptoRow : OpenClaim := { program := "ytnbdafmjcmmfpaagreat", sum := "3f568507735a79e57a420d4d9e9d340dd3506bb1e426530053cb07086ed0c447", func := "verge/vergelaw16.CallsNone", spec := "callsNone", unfollowed := true, recurses := true, apart := false, narrowed := true }
def CallsNoneUptoSaid : Prop := callsNoneUptoRow.holds Tryz.pinned (OpenSpec.upto callsNoneSpec)

/-- 'vergelaw16.CallsGone', WHERE WHAT IT READS IS OF BULK AT MOST 1048576: true; the input reads as it did. -/
def callsGoneUptoRow : OpenClaim := { program := "ytnbdafmjcmmfpaagreat", sum := "3f568507735a79e57a420d4d9e9d340dd3506bb1e426530053cb07086ed0c447", func := "verge/vergelaw16.CallsGone", spec := "callsGone", unfollowed := true, recurses := true, apart := false, narrowed := true }
def CallsGoneUptoSaid : Prop := callsGoneUptoRow.holds Tryz.pinned (OpenSpec.upto callsGoneSpec)

end Rows
end Go.Proofs.YtnbdafmjcmmfpaaGreat
