/-
  DERIVED. GIVEN WITH THE SEED: THE CARDS: each row of YtbkfalaicocopaaDoorRows.lean that lists a variable, with what it lists TIED to the program's text (the seventh form; the later family's looks); each row that meets fmt, with fmt's text TOLD by the authors' own Lean function (tested against real Go, not proved from fmt's source: count such statements apart). THE CARD IS WHAT COUNTS. Prove the row's statement (the work); the ties are given (YtbkfalaicocopaaDoorTie.lean); close each card by the builder's one call (the guide's Derived/Test/ToyasCard.lean, 'card_holds'). Laid BY PROGRAM, IN A SANDBOX (cutbox-door.mjs). By AI agents, Wed Nov 11 2026. No macro, syntax, notation, axiom, sorry.
-/
import Derived.Test.YtbkfalaicocopaaDoorRows
import GoSem.ClaimSeven
namespace Go.Proofs.YtbkfalaicocopaaDoor
namespace Rows

/-- THE TIED CARD OF 'rampartlaw01.SumFar'. -/
def sumFarCard : Claim7 := { stood := { row := sumFarRow, standIns := [], harness := (true, "2ed2abd2207d8c84ed24bddaed3af675588c2b44df553168626049cca5de2ce5"), looks := false }, kinds := [], alts := [], laidByText := true, laidKinds := [.data], laidTests := true, laidLooks := .later }
def SumFarCardSaid : Prop := Claim7.holds Tryd.pinned (.plain (OpenSpec.ofChange sumFarSpec)) sumFarCard

/-- THE TIED CARD OF 'rampartlaw01.SumPieces'. -/
def sumPiecesCard : Claim7 := { stood := { row := sumPiecesRow, standIns := [], harness := (true, "2ed2abd2207d8c84ed24bddaed3af675588c2b44df553168626049cca5de2ce5"), looks := false }, kinds := [], alts := [], laidByText := true, laidKinds := [.data], laidTests := true, laidLooks := .later }
def SumPiecesCardSaid : Prop := Claim7.holds Tryd.pinned (.plain (OpenSpec.ofChange sumPiecesSpec)) sumPiecesCard

/-- THE TIED CARD OF 'rampartlaw01.SumBursts'. -/
def sumBurstsCard : Claim7 := { stood := { row := sumBurstsRow, standIns := [], harness := (true, "2ed2abd2207d8c84ed24bddaed3af675588c2b44df553168626049cca5de2ce5"), looks := false }, kinds := [], alts := [], laidByText := true, laidKinds := [.data], laidTests := true, laidLooks := .later }
def SumBurstsCardSaid : Prop := Claim7.holds Tryd.pinned (.plain (OpenSpec.ofChange sumBurstsSpec)) sumBurstsCard

/-- THE TIED CARD OF 'rampartlaw01.SumPlays'. -/
def sumPlaysCard : Claim7 := { stood := { row := sumPlaysRow, standIns := [], harness := (true, "2ed2abd2207d8c84ed24bddaed3af675588c2b44df553168626049cca5de2ce5"), looks := false }, kinds := [], alts := [], laidByText := true, laidKinds := [.data], laidTests := true, laidLooks := .later }
def SumPlaysCardSaid : Prop := Claim7.holds Tryd.pinned (.plain (OpenSpec.ofChange sumPlaysSpec)) sumPlaysCard

/-- THE SECOND FORM's CARD OF 'rampartlaw01.SumFar'. -/
def sumFarUptoCard : Claim7 := { stood := { row := sumFarUptoRow, standIns := [], harness := (true, "2ed2abd2207d8c84ed24bddaed3af675588c2b44df553168626049cca5de2ce5"), looks := false }, kinds := [], alts := [], laidByText := true, laidKinds := [.data], laidTests := true, laidLooks := .later }
def SumFarUptoCardSaid : Prop := Claim7.holds Tryd.pinned (.plain (OpenSpec.upto sumFarSpec)) sumFarUptoCard

/-- THE SECOND FORM's CARD OF 'rampartlaw01.SumPieces'. -/
def sumPiecesUptoCard : Claim7 := { stood := { row := sumPiecesUptoRow, standIns := [], harness := (true, "2ed2abd2207d8c84ed24bddaed3af675588c2b44df553168626049cca5de2ce5"), looks := false }, kinds := [], alts := [], laidByText := true, laidKinds := [.data], laidTests := true, laidLooks := .later }
def SumPiecesUptoCardSaid : Prop := Claim7.holds Tryd.pinned (.plain (OpenSpec.upto sumPiecesSpec)) sumPiecesUptoCard

/-- THE SECOND FORM's CARD OF 'rampartlaw01.SumBursts'. -/
def sumBurstsUptoCard : Claim7 := { stood := { row := sumBurstsUptoRow, standIns := [], harness := (true, "2ed2abd2207d8c84ed24bddaed3af675588c2b44df553168626049cca5de2ce5"), looks := false }, kinds := [], alts := [], laidByText := true, laidKinds := [.data], laidTests := true, laidLooks := .later }
def SumBurstsUptoCardSaid : Prop := Claim7.holds Tryd.pinned (.plain (OpenSpec.upto sumBurstsSpec)) sumBurstsUptoCard

/-- THE SECOND FORM's CARD OF 'rampartlaw01.SumPlays'. -/
def sumPlaysUptoCard : Claim7 := { stood := { row := sumPlaysUptoRow, standIns := [], harness := (true, "2ed2abd2207d8c84ed24bddaed3af675588c2b44df553168626049cca5de2ce5"), looks := false }, kinds := [], alts := [], laidByText := true, laidKinds := [.data], laidTests := true, laidLooks := .later }
def SumPlaysUptoCardSaid : Prop := Claim7.holds Tryd.pinned (.plain (OpenSpec.upto sumPlaysSpec)) sumPlaysUptoCard
end Rows
end Go.Proofs.YtbkfalaicocopaaDoor
