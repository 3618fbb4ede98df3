/-
  DERIVED. GIVEN WITH THE SEED: THE CARDS: each row of YtkfknafgknppdaaDoorRows.lean that lists a variable, with what it lists TIED to the program's text (the seventh form; the later family's looks); each row that meets fmt, with fmt's text TOLD by the authors' own Lean function (tested against real Go, not proved from fmt's source: count such statements apart). THE CARD IS WHAT COUNTS. Prove the row's statement (the work); the ties are given (YtkfknafgknppdaaDoorTie.lean); close each card by the builder's one call (the guide's Derived/Test/ToyasCard.lean, 'card_holds'). Laid BY PROGRAM, IN A SANDBOX (cutbox-door.mjs). By AI agents, Wed Nov 11 2026. No macro, syntax, notation, axiom, sorry.
-/
import Derived.Test.YtkfknafgknppdaaDoorRows
import GoSem.ClaimSeven
namespace Go.Proofs.YtkfknafgknppdaaDoor
namespace Rows

/-- THE TIED CARD OF 'vergelaw08.WheelActs'. -/
def wheelActsCard : Claim7 := { stood := { row := wheelActsRow, standIns := [], harness := (true, "404c26de2f29f2bf658e18594235e70c821aec3c24cfa791180a0cdb02a4ad7c"), looks := false }, kinds := [], alts := [], laidByText := true, laidKinds := [.data], laidTests := true, laidLooks := .later }
def WheelActsCardSaid : Prop := Claim7.holds Tryd.pinned (.plain (OpenSpec.ofChange wheelActsSpec)) wheelActsCard

/-- THE SECOND FORM's CARD OF 'vergelaw08.WheelActs'. -/
def wheelActsUptoCard : Claim7 := { stood := { row := wheelActsUptoRow, standIns := [], harness := (true, "404c26de2f29f2bf658e18594235e70c821aec3c24cfa791180a0cdb02a4ad7c"), looks := false }, kinds := [], alts := [], laidByText := true, laidKinds := [.data], laidTests := true, laidLooks := .later }
def WheelActsUptoCardSaid : Prop := Claim7.holds Tryd.pinned (.plain (OpenSpec.upto wheelActsSpec)) wheelActsUptoCard
end Rows
end Go.Proofs.YtkfknafgknppdaaDoor
