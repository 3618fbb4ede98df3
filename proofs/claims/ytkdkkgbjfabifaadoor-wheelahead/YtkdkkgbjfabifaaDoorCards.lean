/-
  DERIVED. GIVEN WITH THE SEED: THE CARDS: each row of YtkdkkgbjfabifaaDoorRows.lean that lists a variable, with what it lists TIED to the program's text (the seventh form; the later family's looks); each row that meets fmt, with fmt's text TOLD by the authors' own Lean function (tested against real Go, not proved from fmt's source: count such statements apart). THE CARD IS WHAT COUNTS. Prove the row's statement (the work); the ties are given (YtkdkkgbjfabifaaDoorTie.lean); close each card by the builder's one call (the guide's Derived/Test/ToyasCard.lean, 'card_holds'). Laid BY PROGRAM, IN A SANDBOX (cutbox-door.mjs). By AI agents, Wed Nov 11 2026. No macro, syntax, notation, axiom, sorry.
-/
import Derived.Test.YtkdkkgbjfabifaaDoorRows
import GoSem.ClaimSeven
namespace Go.Proofs.YtkdkkgbjfabifaaDoor
namespace Rows

/-- THE TIED CARD OF 'vergelaw08.WheelActs'. -/
def wheelActsCard : Claim7 := { stood := { row := wheelActsRow, standIns := [], harness := (true, "b951392705a90429bab016e206d898cc169665650f4d29c034dd940c73b12514"), looks := false }, kinds := [], alts := [], laidByText := true, laidKinds := [.data], laidTests := true, laidLooks := .later }
def WheelActsCardSaid : Prop := Claim7.holds Tryd.pinned (.plain (OpenSpec.ofChange wheelActsSpec)) wheelActsCard

/-- THE TIED CARD OF 'vergelaw08.WheelExact'. -/
def wheelExactCard : Claim7 := { stood := { row := wheelExactRow, standIns := [], harness := (true, "b951392705a90429bab016e206d898cc169665650f4d29c034dd940c73b12514"), looks := false }, kinds := [], alts := [], laidByText := true, laidKinds := [.data], laidTests := true, laidLooks := .later }
def WheelExactCardSaid : Prop := Claim7.holds Tryd.pinned (.plain (OpenSpec.ofChange wheelExactSpec)) wheelExactCard

/-- THE TIED CARD OF 'vergelaw08.WheelAhead'. -/
def wheelAheadCard : Claim7 := { stood := { row := wheelAheadRow, standIns := [], harness := (true, "b951392705a90429bab016e206d898cc169665650f4d29c034dd940c73b12514"), looks := false }, kinds := [], alts := [], laidByText := true, laidKinds := [.data], laidTests := true, laidLooks := .later }
def WheelAheadCardSaid : Prop := Claim7.holds Tryd.pinned (.plain (OpenSpec.ofChange wheelAheadSpec)) wheelAheadCard

/-- THE TIED CARD OF 'vergelaw08.WheelNext'. -/
def wheelNextCard : Claim7 := { stood := { row := wheelNextRow, standIns := [], harness := (true, "b951392705a90429bab016e206d898cc169665650f4d29c034dd940c73b12514"), looks := false }, kinds := [], alts := [], laidByText := true, laidKinds := [.data], laidTests := true, laidLooks := .later }
def WheelNextCardSaid : Prop := Claim7.holds Tryd.pinned (.plain (OpenSpec.ofChange wheelNextSpec)) wheelNextCard

/-- THE TIED CARD OF 'vergelaw08.WheelNone'. -/
def wheelNoneCard : Claim7 := { stood := { row := wheelNoneRow, standIns := [], harness := (true, "b951392705a90429bab016e206d898cc169665650f4d29c034dd940c73b12514"), looks := false }, kinds := [], alts := [], laidByText := true, laidKinds := [.data], laidTests := true, laidLooks := .later }
def WheelNoneCardSaid : Prop := Claim7.holds Tryd.pinned (.plain (OpenSpec.ofChange wheelNoneSpec)) wheelNoneCard

/-- THE TIED CARD OF 'vergelaw08.WheelShift'. -/
def wheelShiftCard : Claim7 := { stood := { row := wheelShiftRow, standIns := [], harness := (true, "b951392705a90429bab016e206d898cc169665650f4d29c034dd940c73b12514"), looks := false }, kinds := [], alts := [], laidByText := true, laidKinds := [.data], laidTests := true, laidLooks := .later }
def WheelShiftCardSaid : Prop := Claim7.holds Tryd.pinned (.plain (OpenSpec.ofChange wheelShiftSpec)) wheelShiftCard

/-- THE SECOND FORM's CARD OF 'vergelaw08.WheelActs'. -/
def wheelActsUptoCard : Claim7 := { stood := { row := wheelActsUptoRow, standIns := [], harness := (true, "b951392705a90429bab016e206d898cc169665650f4d29c034dd940c73b12514"), looks := false }, kinds := [], alts := [], laidByText := true, laidKinds := [.data], laidTests := true, laidLooks := .later }
def WheelActsUptoCardSaid : Prop := Claim7.holds Tryd.pinned (.plain (OpenSpec.upto wheelActsSpec)) wheelActsUptoCard

/-- THE SECOND FORM's CARD OF 'vergelaw08.WheelExact'. -/
def wheelExactUptoCard : Claim7 := { stood := { row := wheelExactUptoRow, standIns := [], harness := (true, "b951392705a90429bab016e206d898cc169665650f4d29c034dd940c73b12514"), looks := false }, kinds := [], alts := [], laidByText := true, laidKinds := [.data], laidTests := true, laidLooks := .later }
def WheelExactUptoCardSaid : Prop := Claim7.holds Tryd.pinned (.plain (OpenSpec.upto wheelExactSpec)) wheelExactUptoCard

/-- THE SECOND FORM's CARD OF 'vergelaw08.WheelAhead'. -/
def wheelAheadUptoCard : Claim7 := { stood := { row := wheelAheadUptoRow, standIns := [], harness := (true, "b951392705a90429bab016e206d898cc169665650f4d29c034dd940c73b12514"), looks := false }, kinds := [], alts := [], laidByText := true, laidKinds := [.data], laidTests := true, laidLooks := .later }
def WheelAheadUptoCardSaid : Prop := Claim7.holds Tryd.pinned (.plain (OpenSpec.upto wheelAheadSpec)) wheelAheadUptoCard

/-- THE SECOND FORM's CARD OF 'vergelaw08.WheelNext'. -/
def wheelNextUptoCard : Claim7 := { stood := { row := wheelNextUptoRow, standIns := [], harness := (true, "b951392705a90429bab016e206d898cc169665650f4d29c034dd940c73b12514"), looks := false }, kinds := [], alts := [], laidByText := true, laidKinds := [.data], laidTests := true, laidLooks := .later }
def WheelNextUptoCardSaid : Prop := Claim7.holds Tryd.pinned (.plain (OpenSpec.upto wheelNextSpec)) wheelNextUptoCard

/-- THE SECOND FORM's CARD OF 'vergelaw08.WheelNone'. -/
def wheelNoneUptoCard : Claim7 := { stood := { row := wheelNoneUptoRow, standIns := [], harness := (true, "b951392705a90429bab016e206d898cc169665650f4d29c034dd940c73b12514"), looks := false }, kinds := [], alts := [], laidByText := true, laidKinds := [.data], laidTests := true, laidLooks := .later }
def WheelNoneUptoCardSaid : Prop := Claim7.holds Tryd.pinned (.plain (OpenSpec.upto wheelNoneSpec)) wheelNoneUptoCard

/-- THE SECOND FORM's CARD OF 'vergelaw08.WheelShift'. -/
def wheelShiftUptoCard : Claim7 := { stood := { row := wheelShiftUptoRow, standIns := [], harness := (true, "b951392705a90429bab016e206d898cc169665650f4d29c034dd940c73b12514"), looks := false }, kinds := [], alts := [], laidByText := true, laidKinds := [.data], laidTests := true, laidLooks := .later }
def WheelShiftUptoCardSaid : Prop := Claim7.holds Tryd.pinned (.plain (OpenSpec.upto wheelShiftSpec)) wheelShiftUptoCard
end Rows
end Go.Proofs.YtkdkkgbjfabifaaDoor
