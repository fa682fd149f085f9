/-
  DERIVED. GIVEN WITH THE SEED: THE CARDS: each row of YtjkljljmjjnneaaGreatDoorRows.lean that lists a variable, with what it lists TIED to the program's text (the seventh form; the later family's looks); each row that meets fmt, with fmt's text TOLD by the authors' own Lean function (tested against real Go, not proved from fmt's source: count such statements apart). THE CARD IS WHAT COUNTS. Prove the row's statement (the work); the ties are given (YtjkljljmjjnneaaGreatDoorTie.lean); close each card by the builder's one call (the guide's Derived/Test/ToyasCard.lean, 'card_holds'). Laid BY PROGRAM, IN A SANDBOX (cutbox-door.mjs). By AI agents, Wed Nov 11 2026. No macro, syntax, notation, axiom, sorry.
-/
import Derived.Test.YtjkljljmjjnneaaGreatDoorRows
import GoSem.ClaimSeven
namespace Go.Proofs.YtjkljljmjjnneaaGreatDoor
namespace Rows

/-- THE TIED CARD OF 'rampartlaw23.HistoryMade'. -/
def historyMadeCard : Claim7 := { stood := { row := historyMadeRow, standIns := [], harness := (true, "03e2813ea014e7e20f87bdda1decf9319766ed849839e3cf86ee9e36e4f2ed4f"), looks := true }, kinds := [], alts := [], laidByText := true, laidKinds := [.data, .data, .data, .data, .sentinel, .sentinel, .data, .pinned], laidTests := true, laidLooks := .later }
def HistoryMadeCardSaid : Prop := Claim7.holds Tryz.pinned (.plain (OpenSpec.ofChange historyMadeSpec)) historyMadeCard

/-- THE TIED CARD OF 'rampartlaw23.HistoryKeeps'. -/
def historyKeepsCard : Claim7 := { stood := { row := historyKeepsRow, standIns := [], harness := (true, "03e2813ea014e7e20f87bdda1decf9319766ed849839e3cf86ee9e36e4f2ed4f"), looks := true }, kinds := [], alts := [], laidByText := true, laidKinds := [.data, .data, .data, .data, .sentinel, .sentinel, .data, .pinned], laidTests := true, laidLooks := .later }
def HistoryKeepsCardSaid : Prop := Claim7.holds Tryz.pinned (.plain (OpenSpec.ofChange historyKeepsSpec)) historyKeepsCard

/-- THE TIED CARD OF 'rampartlaw23.HistoryPrints'. -/
def historyPrintsCard : Claim7 := { stood := { row := historyPrintsRow, standIns := [], harness := (true, "03e2813ea014e7e20f87bdda1decf9319766ed849839e3cf86ee9e36e4f2ed4f"), looks := true }, kinds := [], alts := [], laidByText := true, laidKinds := [.data, .data, .data, .data, .sentinel, .sentinel, .data, .pinned], laidTests := true, laidLooks := .later }
def HistoryPrintsCardSaid : Prop := Claim7.holds Tryz.pinned (.plain (OpenSpec.ofChange historyPrintsSpec)) historyPrintsCard

/-- THE SECOND FORM's CARD OF 'rampartlaw23.HistoryMade'. -/
def historyMadeUptoCard : Claim7 := { stood := { row := historyMadeUptoRow, standIns := [], harness := (true, "03e2813ea014e7e20f87bdda1decf9319766ed849839e3cf86ee9e36e4f2ed4f"), looks := true }, kinds := [], alts := [], laidByText := true, laidKinds := [.data, .data, .data, .data, .sentinel, .sentinel, .data, .pinned], laidTests := true, laidLooks := .later }
def HistoryMadeUptoCardSaid : Prop := Claim7.holds Tryz.pinned (.plain (OpenSpec.upto historyMadeSpec)) historyMadeUptoCard

/-- THE SECOND FORM's CARD OF 'rampartlaw23.HistoryKeeps'. -/
def historyKeepsUptoCard : Claim7 := { stood := { row := historyKeepsUptoRow, standIns := [], harness := (true, "03e2813ea014e7e20f87bdda1decf9319766ed849839e3cf86ee9e36e4f2ed4f"), looks := true }, kinds := [], alts := [], laidByText := true, laidKinds := [.data, .data, .data, .data, .sentinel, .sentinel, .data, .pinned], laidTests := true, laidLooks := .later }
def HistoryKeepsUptoCardSaid : Prop := Claim7.holds Tryz.pinned (.plain (OpenSpec.upto historyKeepsSpec)) historyKeepsUptoCard

/-- THE SECOND FORM's CARD OF 'rampartlaw23.HistoryPrints'. -/
def historyPrintsUptoCard : Claim7 := { stood := { row := historyPrintsUptoRow, standIns := [], harness := (true, "03e2813ea014e7e20f87bdda1decf9319766ed849839e3cf86ee9e36e4f2ed4f"), looks := true }, kinds := [], alts := [], laidByText := true, laidKinds := [.data, .data, .data, .data, .sentinel, .sentinel, .data, .pinned], laidTests := true, laidLooks := .later }
def HistoryPrintsUptoCardSaid : Prop := Claim7.holds Tryz.pinned (.plain (OpenSpec.upto historyPrintsSpec)) historyPrintsUptoCard
end Rows
end Go.Proofs.YtjkljljmjjnneaaGreatDoor
