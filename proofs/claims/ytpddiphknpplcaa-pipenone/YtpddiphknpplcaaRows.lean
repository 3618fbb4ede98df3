/-
  No cell of these rows narrows 'for every input' (looked for: loops, veiled, ifaces, maps, wideKeys, modest, calm, conditions, laid).
  DERIVED. THE GIVEN ROWS OF THIS SEAT. 4 by the template 'for every input the law returns true; each argument reads behind the call as it read before'; 0 by the template 'total and deterministic' (their statements: YtpddiphknpplcaaTotals.lean).
  GIVEN WITH THE SEED: the statements are not yours to turn. If you find one false, say at which input.
  Laid BY PROGRAM, IN A SANDBOX (cutbox-rows.mjs): the forced cells as the released guide's own fill.sh prints them over the translation bf88b78c7655b79d… (all of the seat's roots in one cut). By AI agents, Wed Nov 11 2026. No macro, syntax, notation, axiom, sorry.
-/
import Derived.Test.YtpddiphknpplcaaChecked
import GoSem.Claim
import GoSem.ClaimJoined
import GoSem.ClaimMapViews
import Derived.JoinedTies
import Derived.KernelRfl
namespace Go.Proofs.Ytpddiphknpplcaa
/- THE CELL 'sum', in the pinned program and in every row, IS THE sha256 OF THE DUMP (.gsa) THAT YtpddiphknpplcaaProg.lean LOADS. Nothing in Lean hashes anything: it is a label: what it is worth is what the hold of that sum in a sandbox is worth. -/
noncomputable def Try.pinned : Pinned := { name := "ytpddiphknpplcaa", sum := "bf88b78c7655b79ddf7fadd12d18a2fbd869d4b4b3f4dd8b50d1f86efe5aea9f", checked := Try.checked }
namespace Rows
def none {H : Type} : Left H := { results := [], args := [] }

/-- 'vergelaw11.PipeActs': WHATEVER THE INPUT: true; the input reads as it did. -/
def pipeActsSpec : ChangeSpec := { name := "pipeActs", fn := fun _ => fun
  | [d1, d2] => { results := [.lit (.bool true)], args := [d1, d2] }
  | _ => none }
def pipeActsRow : OpenClaim := { program := "ytpddiphknpplcaa", sum := "bf88b78c7655b79ddf7fadd12d18a2fbd869d4b4b3f4dd8b50d1f86efe5aea9f", func := "verge/vergelaw11.PipeActs", spec := "pipeActs", unfollowed := true, recurses := true, apart := false }
def PipeActsSaid : Prop := pipeActsRow.holds Try.pinned (OpenSpec.ofChange pipeActsSpec)

/-- ITS FALSE NEIGHBOUR: 'it returns false'. Refute it at one input. -/
def pipeActsWrong : ChangeSpec := { name := "pipeActs", fn := fun _ => fun
  | [d1, d2] => { results := [.lit (.bool false)], args := [d1, d2] }
  | _ => none }
def PipeActsWrongFalsely : Prop := pipeActsRow.holds Try.pinned (OpenSpec.ofChange pipeActsWrong)

/-- 'vergelaw11.PipeOrder': WHATEVER THE INPUT: true; the input reads as it did. -/
def pipeOrderSpec : ChangeSpec := { name := "pipeOrder", fn := fun _ => fun
  | [d1, d2] => { results := [.lit (.bool true)], args := [d1, d2] }
  | _ => none }
def pipeOrderRow : OpenClaim := { program := "ytpddiphknpplcaa", sum := "bf88b78c7655b79ddf7fadd12d18a2fbd869d4b4b3f4dd8b50d1f86efe5aea9f", func := "verge/vergelaw11.PipeOrder", spec := "pipeOrder", apart := false }
def PipeOrderSaid : Prop := pipeOrderRow.holds Try.pinned (OpenSpec.ofChange pipeOrderSpec)

/-- ITS FALSE NEIGHBOUR: 'it returns false'. Refute it at one input. -/
def pipeOrderWrong : ChangeSpec := { name := "pipeOrder", fn := fun _ => fun
  | [d1, d2] => { results := [.lit (.bool false)], args := [d1, d2] }
  | _ => none }
def PipeOrderWrongFalsely : Prop := pipeOrderRow.holds Try.pinned (OpenSpec.ofChange pipeOrderWrong)

/-- 'vergelaw11.PipeNone': WHATEVER THE INPUT: true; the input reads as it did. -/
def pipeNoneSpec : ChangeSpec := { name := "pipeNone", fn := fun _ => fun
  | [d] => { results := [.lit (.bool true)], args := [d] }
  | _ => none }
def pipeNoneRow : OpenClaim := { program := "ytpddiphknpplcaa", sum := "bf88b78c7655b79ddf7fadd12d18a2fbd869d4b4b3f4dd8b50d1f86efe5aea9f", func := "verge/vergelaw11.PipeNone", spec := "pipeNone", unfollowed := true, recurses := true, apart := false }
def PipeNoneSaid : Prop := pipeNoneRow.holds Try.pinned (OpenSpec.ofChange pipeNoneSpec)

/-- ITS FALSE NEIGHBOUR: 'it returns false'. Refute it at one input. -/
def pipeNoneWrong : ChangeSpec := { name := "pipeNone", fn := fun _ => fun
  | [d] => { results := [.lit (.bool false)], args := [d] }
  | _ => none }
def PipeNoneWrongFalsely : Prop := pipeNoneRow.holds Try.pinned (OpenSpec.ofChange pipeNoneWrong)

/-- 'vergelaw11.PipeMost': WHATEVER THE INPUT: true; the input reads as it did. -/
def pipeMostSpec : ChangeSpec := { name := "pipeMost", fn := fun _ => fun
  | [d1, d2] => { results := [.lit (.bool true)], args := [d1, d2] }
  | _ => none }
def pipeMostRow : OpenClaim := { program := "ytpddiphknpplcaa", sum := "bf88b78c7655b79ddf7fadd12d18a2fbd869d4b4b3f4dd8b50d1f86efe5aea9f", func := "verge/vergelaw11.PipeMost", spec := "pipeMost", unfollowed := true, recurses := true, apart := false }
def PipeMostSaid : Prop := pipeMostRow.holds Try.pinned (OpenSpec.ofChange pipeMostSpec)

/-- ITS FALSE NEIGHBOUR: 'it returns false'. Refute it at one input. -/
def pipeMostWrong : ChangeSpec := { name := "pipeMost", fn := fun _ => fun
  | [d1, d2] => { results := [.lit (.bool false)], args := [d1, d2] }
  | _ => none }
def PipeMostWrongFalsely : Prop := pipeMostRow.holds Try.pinned (OpenSpec.ofChange pipeMostWrong)

/- THE SECOND FORM. 'bulk': how many values and letters a reading holds, each counted each time it is reached (what is shared counts as often as it is met; a slice's spare places count too). A statement '..UptoSaid' is the law's where the arguments, and the package variables that the reading takes, are together of bulk at most 1048576: NARROWER than '..Said'. Prove '..Said' where nothing that the law and all that it calls make is longer than what came in: it says more and counts as full. Else prove '..UptoSaid'. A law counts once. -/
mutual
def uptoBulk {H : Type} : DataW H → Nat
  | .lit (.string bytes) => bytes.length + 1
  | .lit _ => 1
  | .nil => 1
  | .ptr d => uptoBulk d + 1
  | .slice elems spare => uptoBulkAll elems + uptoBulkAll spare + 1
  | .agg parts => uptoBulkAll parts + 1
  | .iface _ d => uptoBulk d + 1
  | .map entries => uptoBulkEntries entries + 1
  | .held _ => 1
def uptoBulkAll {H : Type} : List (DataW H) → Nat
  | [] => 0
  | d :: r => uptoBulk d + uptoBulkAll r
def uptoBulkEntries {H : Type} : List (Lit × DataW H) → Nat
  | [] => 0
  | x :: r => uptoBulkEntry x + uptoBulkEntries r
def uptoBulkEntry {H : Type} : Lit × DataW H → Nat
  | (.string bytes, d) => bytes.length + uptoBulk d + 1
  | (_, d) => uptoBulk d + 1
 end
def uptoSmall : (H : Type) → List (DataW H) → Bool := fun _ ds => decide (uptoBulkAll ds ≤ 1048576)
def OpenSpec.upto (s : _root_.Go.ChangeSpec) : _root_.Go.OpenSpec := { _root_.Go.OpenSpec.ofChange s with cond := some uptoSmall }

/-- 'vergelaw11.PipeActs', WHERE WHAT IT READS IS OF BULK AT MOST 1048576: true; the input reads as it did. -/
def pipeActsUptoRow : OpenClaim := { program := "ytpddiphknpplcaa", sum := "bf88b78c7655b79ddf7fadd12d18a2fbd869d4b4b3f4dd8b50d1f86efe5aea9f", func := "verge/vergelaw11.PipeActs", spec := "pipeActs", unfollowed := true, recurses := true, apart := false, narrowed := true }
def PipeActsUptoSaid : Prop := pipeActsUptoRow.holds Try.pinned (OpenSpec.upto pipeActsSpec)

/-- 'vergelaw11.PipeOrder', WHERE WHAT IT READS IS OF BULK AT MOST 1048576: true; the input reads as it did. -/
def pipeOrderUptoRow : OpenClaim := { program := "ytpddiphknpplcaa", sum := "bf88b78c7655b79ddf7fadd12d18a2fbd869d4b4b3f4dd8b50d1f86efe5aea9f", func := "verge/vergelaw11.PipeOrder", spec := "pipeOrder", apart := false, narrowed := true }
def PipeOrderUptoSaid : Prop := pipeOrderUptoRow.holds Try.pinned (OpenSpec.upto pipeOrderSpec)

/-- 'vergelaw11.PipeNone', WHERE WHAT IT READS IS OF BULK AT MOST 1048576: true; the input reads as it did. -/
def pipeNoneUptoRow : OpenClaim := { program := "ytpddiphknpplcaa", sum := "bf88b78c7655b79ddf7fadd12d18a2fbd869d4b4b3f4dd8b50d1f86efe5aea9f", func := "verge/vergelaw11.PipeNone", spec := "pipeNone", unfollowed := true, recurses := true, apart := false, narrowed := true }
def PipeNoneUptoSaid : Prop := pipeNoneUptoRow.holds Try.pinned (OpenSpec.upto pipeNoneSpec)

/-- 'vergelaw11.PipeMost', WHERE WHAT IT READS IS OF BULK AT MOST 1048576: true; the input reads as it did. -/
def pipeMostUptoRow : OpenClaim := { program := "ytpddiphknpplcaa", sum := "bf88b78c7655b79ddf7fadd12d18a2fbd869d4b4b3f4dd8b50d1f86efe5aea9f", func := "verge/vergelaw11.PipeMost", spec := "pipeMost", unfollowed := true, recurses := true, apart := false, narrowed := true }
def PipeMostUptoSaid : Prop := pipeMostUptoRow.holds Try.pinned (OpenSpec.upto pipeMostSpec)

end Rows
end Go.Proofs.Ytpddiphknpplcaa
