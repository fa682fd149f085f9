/-
  DERIVED. GIVEN WITH THE SEED: THE CARDS: each row of YtgamhblkgojapaaDoorRows.lean that lists a variable, with what it lists TIED to the program's text (the seventh form; the later family's looks); each row that meets fmt, with fmt's text TOLD by the authors' own Lean function (tested against real Go, not proved from fmt's source: count such statements apart). THE CARD IS WHAT COUNTS. Prove the row's statement (the work); the ties are given (YtgamhblkgojapaaDoorTie.lean); close each card by the builder's one call (the guide's Derived/Test/ToyasCard.lean, 'card_holds'). Laid BY PROGRAM, IN A SANDBOX (cutbox-door.mjs). By AI agents, Wed Nov 11 2026. No macro, syntax, notation, axiom, sorry.
-/
import Derived.Test.YtgamhblkgojapaaDoorRows
import GoSem.ClaimSeven
namespace Go.Proofs.YtgamhblkgojapaaDoor
namespace Rows

/-- THE TIED CARD OF 'rampartlaw10.WalTorn'. -/
def walTornCard : Claim7 := { stood := { row := walTornRow, standIns := [], harness := (true, "c9a4c8b812f2ee9c5bf0d5a39f18e1098b217bcab3236b52f9a854f3c9749b3d"), looks := false }, kinds := [], alts := [], laidByText := true, laidKinds := [.data], laidTests := true, laidLooks := .later }
def WalTornCardSaid : Prop := Claim7.holds Tryd.pinned (.plain (OpenSpec.ofChange walTornSpec)) walTornCard

/-- THE TIED CARD OF 'rampartlaw10.WalMemory'. -/
def walMemoryCard : Claim7 := { stood := { row := walMemoryRow, standIns := [], harness := (true, "c9a4c8b812f2ee9c5bf0d5a39f18e1098b217bcab3236b52f9a854f3c9749b3d"), looks := false }, kinds := [], alts := [], laidByText := true, laidKinds := [.data], laidTests := true, laidLooks := .later }
def WalMemoryCardSaid : Prop := Claim7.holds Tryd.pinned (.plain (OpenSpec.ofChange walMemorySpec)) walMemoryCard

/-- THE TIED CARD OF 'rampartlaw10.WalKeeps'. -/
def walKeepsCard : Claim7 := { stood := { row := walKeepsRow, standIns := [], harness := (true, "c9a4c8b812f2ee9c5bf0d5a39f18e1098b217bcab3236b52f9a854f3c9749b3d"), looks := false }, kinds := [], alts := [], laidByText := true, laidKinds := [.data], laidTests := true, laidLooks := .later }
def WalKeepsCardSaid : Prop := Claim7.holds Tryd.pinned (.plain (OpenSpec.ofChange walKeepsSpec)) walKeepsCard

/-- THE TIED CARD OF 'rampartlaw10.WalRefused'. -/
def walRefusedCard : Claim7 := { stood := { row := walRefusedRow, standIns := [], harness := (true, "c9a4c8b812f2ee9c5bf0d5a39f18e1098b217bcab3236b52f9a854f3c9749b3d"), looks := false }, kinds := [], alts := [], laidByText := true, laidKinds := [.data], laidTests := true, laidLooks := .later }
def WalRefusedCardSaid : Prop := Claim7.holds Tryd.pinned (.plain (OpenSpec.ofChange walRefusedSpec)) walRefusedCard

/-- THE SECOND FORM's CARD OF 'rampartlaw10.WalTorn'. -/
def walTornUptoCard : Claim7 := { stood := { row := walTornUptoRow, standIns := [], harness := (true, "c9a4c8b812f2ee9c5bf0d5a39f18e1098b217bcab3236b52f9a854f3c9749b3d"), looks := false }, kinds := [], alts := [], laidByText := true, laidKinds := [.data], laidTests := true, laidLooks := .later }
def WalTornUptoCardSaid : Prop := Claim7.holds Tryd.pinned (.plain (OpenSpec.upto walTornSpec)) walTornUptoCard

/-- THE SECOND FORM's CARD OF 'rampartlaw10.WalMemory'. -/
def walMemoryUptoCard : Claim7 := { stood := { row := walMemoryUptoRow, standIns := [], harness := (true, "c9a4c8b812f2ee9c5bf0d5a39f18e1098b217bcab3236b52f9a854f3c9749b3d"), looks := false }, kinds := [], alts := [], laidByText := true, laidKinds := [.data], laidTests := true, laidLooks := .later }
def WalMemoryUptoCardSaid : Prop := Claim7.holds Tryd.pinned (.plain (OpenSpec.upto walMemorySpec)) walMemoryUptoCard

/-- THE SECOND FORM's CARD OF 'rampartlaw10.WalKeeps'. -/
def walKeepsUptoCard : Claim7 := { stood := { row := walKeepsUptoRow, standIns := [], harness := (true, "c9a4c8b812f2ee9c5bf0d5a39f18e1098b217bcab3236b52f9a854f3c9749b3d"), looks := false }, kinds := [], alts := [], laidByText := true, laidKinds := [.data], laidTests := true, laidLooks := .later }
def WalKeepsUptoCardSaid : Prop := Claim7.holds Tryd.pinned (.plain (OpenSpec.upto walKeepsSpec)) walKeepsUptoCard

/-- THE SECOND FORM's CARD OF 'rampartlaw10.WalRefused'. -/
def walRefusedUptoCard : Claim7 := { stood := { row := walRefusedUptoRow, standIns := [], harness := (true, "c9a4c8b812f2ee9c5bf0d5a39f18e1098b217bcab3236b52f9a854f3c9749b3d"), looks := false }, kinds := [], alts := [], laidByText := true, laidKinds := [.data], laidTests := true, laidLooks := .later }
def WalRefusedUptoCardSaid : Prop := Claim7.holds Tryd.pinned (.plain (OpenSpec.upto walRefusedSpec)) walRefusedUptoCard
end Rows
end Go.Proofs.YtgamhblkgojapaaDoor
