/-
  DERIVED. GIVEN WITH THE SEED: THE CARDS: each row of YtgaakhiapgmnbaaDoorRows.lean that lists a variable, with what it lists TIED to the program's text (the seventh form; the later family's looks); each row that meets fmt, with fmt's text TOLD by the authors' own Lean function (tested against real Go, not proved from fmt's source: count such statements apart). THE CARD IS WHAT COUNTS. Prove the row's statement (the work); the ties are given (YtgaakhiapgmnbaaDoorTie.lean); close each card by the builder's one call (the guide's Derived/Test/ToyasCard.lean, 'card_holds'). Laid BY PROGRAM, IN A SANDBOX (cutbox-door.mjs). By AI agents, Wed Nov 11 2026. No macro, syntax, notation, axiom, sorry.
-/
import Derived.Test.YtgaakhiapgmnbaaDoorRows
import GoSem.ClaimSeven
namespace Go.Proofs.YtgaakhiapgmnbaaDoor
namespace Rows

/-- THE TIED CARD OF 'vergelaw07.LevelActs'. -/
def levelActsCard : Claim7 := { stood := { row := levelActsRow, standIns := [], harness := (true, "a12f025456261448af86dfd14c67baf3c7b44116e69f89940250fcbef63c66f8"), looks := false }, kinds := [], alts := [], laidByText := true, laidKinds := [.data], laidTests := true, laidLooks := .later }
def LevelActsCardSaid : Prop := Claim7.holds Tryd.pinned (.plain (OpenSpec.ofChange levelActsSpec)) levelActsCard

/-- THE TIED CARD OF 'vergelaw07.LevelMap'. -/
def levelMapCard : Claim7 := { stood := { row := levelMapRow, standIns := [], harness := (true, "a12f025456261448af86dfd14c67baf3c7b44116e69f89940250fcbef63c66f8"), looks := false }, kinds := [], alts := [], laidByText := true, laidKinds := [.data], laidTests := true, laidLooks := .later }
def LevelMapCardSaid : Prop := Claim7.holds Tryd.pinned (.plain (OpenSpec.ofChange levelMapSpec)) levelMapCard

/-- THE TIED CARD OF 'vergelaw07.LevelTaken'. -/
def levelTakenCard : Claim7 := { stood := { row := levelTakenRow, standIns := [], harness := (true, "a12f025456261448af86dfd14c67baf3c7b44116e69f89940250fcbef63c66f8"), looks := false }, kinds := [], alts := [], laidByText := true, laidKinds := [.data], laidTests := true, laidLooks := .later }
def LevelTakenCardSaid : Prop := Claim7.holds Tryd.pinned (.plain (OpenSpec.ofChange levelTakenSpec)) levelTakenCard

/-- THE TIED CARD OF 'vergelaw07.LevelNone'. -/
def levelNoneCard : Claim7 := { stood := { row := levelNoneRow, standIns := [], harness := (true, "a12f025456261448af86dfd14c67baf3c7b44116e69f89940250fcbef63c66f8"), looks := false }, kinds := [], alts := [], laidByText := true, laidKinds := [.data], laidTests := true, laidLooks := .later }
def LevelNoneCardSaid : Prop := Claim7.holds Tryd.pinned (.plain (OpenSpec.ofChange levelNoneSpec)) levelNoneCard

/-- THE SECOND FORM's CARD OF 'vergelaw07.LevelActs'. -/
def levelActsUptoCard : Claim7 := { stood := { row := levelActsUptoRow, standIns := [], harness := (true, "a12f025456261448af86dfd14c67baf3c7b44116e69f89940250fcbef63c66f8"), looks := false }, kinds := [], alts := [], laidByText := true, laidKinds := [.data], laidTests := true, laidLooks := .later }
def LevelActsUptoCardSaid : Prop := Claim7.holds Tryd.pinned (.plain (OpenSpec.upto levelActsSpec)) levelActsUptoCard

/-- THE SECOND FORM's CARD OF 'vergelaw07.LevelMap'. -/
def levelMapUptoCard : Claim7 := { stood := { row := levelMapUptoRow, standIns := [], harness := (true, "a12f025456261448af86dfd14c67baf3c7b44116e69f89940250fcbef63c66f8"), looks := false }, kinds := [], alts := [], laidByText := true, laidKinds := [.data], laidTests := true, laidLooks := .later }
def LevelMapUptoCardSaid : Prop := Claim7.holds Tryd.pinned (.plain (OpenSpec.upto levelMapSpec)) levelMapUptoCard

/-- THE SECOND FORM's CARD OF 'vergelaw07.LevelTaken'. -/
def levelTakenUptoCard : Claim7 := { stood := { row := levelTakenUptoRow, standIns := [], harness := (true, "a12f025456261448af86dfd14c67baf3c7b44116e69f89940250fcbef63c66f8"), looks := false }, kinds := [], alts := [], laidByText := true, laidKinds := [.data], laidTests := true, laidLooks := .later }
def LevelTakenUptoCardSaid : Prop := Claim7.holds Tryd.pinned (.plain (OpenSpec.upto levelTakenSpec)) levelTakenUptoCard

/-- THE SECOND FORM's CARD OF 'vergelaw07.LevelNone'. -/
def levelNoneUptoCard : Claim7 := { stood := { row := levelNoneUptoRow, standIns := [], harness := (true, "a12f025456261448af86dfd14c67baf3c7b44116e69f89940250fcbef63c66f8"), looks := false }, kinds := [], alts := [], laidByText := true, laidKinds := [.data], laidTests := true, laidLooks := .later }
def LevelNoneUptoCardSaid : Prop := Claim7.holds Tryd.pinned (.plain (OpenSpec.upto levelNoneSpec)) levelNoneUptoCard
end Rows
end Go.Proofs.YtgaakhiapgmnbaaDoor
