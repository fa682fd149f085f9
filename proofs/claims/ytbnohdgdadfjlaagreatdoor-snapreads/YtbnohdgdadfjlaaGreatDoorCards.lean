/-
  DERIVED. GIVEN WITH THE SEED: THE CARDS: each row of YtbnohdgdadfjlaaGreatDoorRows.lean that lists a variable, with what it lists TIED to the program's text (the seventh form; the later family's looks); each row that meets fmt, with fmt's text TOLD by the authors' own Lean function (tested against real Go, not proved from fmt's source: count such statements apart). THE CARD IS WHAT COUNTS. Prove the row's statement (the work); the ties are given (YtbnohdgdadfjlaaGreatDoorTie.lean); close each card by the builder's one call (the guide's Derived/Test/ToyasCard.lean, 'card_holds'). Laid BY PROGRAM, IN A SANDBOX (cutbox-door.mjs). By AI agents, Wed Nov 11 2026. No macro, syntax, notation, axiom, sorry.
-/
import Derived.Test.YtbnohdgdadfjlaaGreatDoorRows
import GoSem.ClaimSeven
namespace Go.Proofs.YtbnohdgdadfjlaaGreatDoor
namespace Rows

/-- THE TIED CARD OF 'rampartlaw13.SnapBursts'. -/
def snapBurstsCard : Claim7 := { stood := { row := snapBurstsRow, standIns := [], harness := (true, "73da37bfd1bdd03a232aa021b47d7c6c34b16d9a47c699e685b2659219700b67"), looks := true }, kinds := [], alts := [], laidByText := true, laidKinds := [.data], laidTests := true, laidLooks := .later }
def SnapBurstsCardSaid : Prop := Claim7.holds Tryz.pinned (.plain (OpenSpec.ofChange snapBurstsSpec)) snapBurstsCard

/-- THE TIED CARD OF 'rampartlaw13.SnapWhole'. -/
def snapWholeCard : Claim7 := { stood := { row := snapWholeRow, standIns := [], harness := (true, "73da37bfd1bdd03a232aa021b47d7c6c34b16d9a47c699e685b2659219700b67"), looks := true }, kinds := [], alts := [], laidByText := true, laidKinds := [.data], laidTests := true, laidLooks := .later }
def SnapWholeCardSaid : Prop := Claim7.holds Tryz.pinned (.plain (OpenSpec.ofChange snapWholeSpec)) snapWholeCard

/-- THE TIED CARD OF 'rampartlaw13.SnapBack'. -/
def snapBackCard : Claim7 := { stood := { row := snapBackRow, standIns := [], harness := (true, "73da37bfd1bdd03a232aa021b47d7c6c34b16d9a47c699e685b2659219700b67"), looks := true }, kinds := [], alts := [], laidByText := true, laidKinds := [.data], laidTests := true, laidLooks := .later }
def SnapBackCardSaid : Prop := Claim7.holds Tryz.pinned (.plain (OpenSpec.ofChange snapBackSpec)) snapBackCard

/-- THE TIED CARD OF 'rampartlaw13.SnapLays'. -/
def snapLaysCard : Claim7 := { stood := { row := snapLaysRow, standIns := [], harness := (true, "73da37bfd1bdd03a232aa021b47d7c6c34b16d9a47c699e685b2659219700b67"), looks := true }, kinds := [], alts := [], laidByText := true, laidKinds := [.data], laidTests := true, laidLooks := .later }
def SnapLaysCardSaid : Prop := Claim7.holds Tryz.pinned (.plain (OpenSpec.ofChange snapLaysSpec)) snapLaysCard

/-- THE TIED CARD OF 'rampartlaw13.SnapReads'. -/
def snapReadsCard : Claim7 := { stood := { row := snapReadsRow, standIns := [], harness := (true, "73da37bfd1bdd03a232aa021b47d7c6c34b16d9a47c699e685b2659219700b67"), looks := true }, kinds := [], alts := [], laidByText := true, laidKinds := [.data], laidTests := true, laidLooks := .later }
def SnapReadsCardSaid : Prop := Claim7.holds Tryz.pinned (.plain (OpenSpec.ofChange snapReadsSpec)) snapReadsCard

/-- THE SECOND FORM's CARD OF 'rampartlaw13.SnapBursts'. -/
def snapBurstsUptoCard : Claim7 := { stood := { row := snapBurstsUptoRow, standIns := [], harness := (true, "73da37bfd1bdd03a232aa021b47d7c6c34b16d9a47c699e685b2659219700b67"), looks := true }, kinds := [], alts := [], laidByText := true, laidKinds := [.data], laidTests := true, laidLooks := .later }
def SnapBurstsUptoCardSaid : Prop := Claim7.holds Tryz.pinned (.plain (OpenSpec.upto snapBurstsSpec)) snapBurstsUptoCard

/-- THE SECOND FORM's CARD OF 'rampartlaw13.SnapWhole'. -/
def snapWholeUptoCard : Claim7 := { stood := { row := snapWholeUptoRow, standIns := [], harness := (true, "73da37bfd1bdd03a232aa021b47d7c6c34b16d9a47c699e685b2659219700b67"), looks := true }, kinds := [], alts := [], laidByText := true, laidKinds := [.data], laidTests := true, laidLooks := .later }
def SnapWholeUptoCardSaid : Prop := Claim7.holds Tryz.pinned (.plain (OpenSpec.upto snapWholeSpec)) snapWholeUptoCard

/-- THE SECOND FORM's CARD OF 'rampartlaw13.SnapBack'. -/
def snapBackUptoCard : Claim7 := { stood := { row := snapBackUptoRow, standIns := [], harness := (true, "73da37bfd1bdd03a232aa021b47d7c6c34b16d9a47c699e685b2659219700b67"), looks := true }, kinds := [], alts := [], laidByText := true, laidKinds := [.data], laidTests := true, laidLooks := .later }
def SnapBackUptoCardSaid : Prop := Claim7.holds Tryz.pinned (.plain (OpenSpec.upto snapBackSpec)) snapBackUptoCard

/-- THE SECOND FORM's CARD OF 'rampartlaw13.SnapLays'. -/
def snapLaysUptoCard : Claim7 := { stood := { row := snapLaysUptoRow, standIns := [], harness := (true, "73da37bfd1bdd03a232aa021b47d7c6c34b16d9a47c699e685b2659219700b67"), looks := true }, kinds := [], alts := [], laidByText := true, laidKinds := [.data], laidTests := true, laidLooks := .later }
def SnapLaysUptoCardSaid : Prop := Claim7.holds Tryz.pinned (.plain (OpenSpec.upto snapLaysSpec)) snapLaysUptoCard

/-- THE SECOND FORM's CARD OF 'rampartlaw13.SnapReads'. -/
def snapReadsUptoCard : Claim7 := { stood := { row := snapReadsUptoRow, standIns := [], harness := (true, "73da37bfd1bdd03a232aa021b47d7c6c34b16d9a47c699e685b2659219700b67"), looks := true }, kinds := [], alts := [], laidByText := true, laidKinds := [.data], laidTests := true, laidLooks := .later }
def SnapReadsUptoCardSaid : Prop := Claim7.holds Tryz.pinned (.plain (OpenSpec.upto snapReadsSpec)) snapReadsUptoCard
end Rows
end Go.Proofs.YtbnohdgdadfjlaaGreatDoor
