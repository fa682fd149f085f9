/-
  DERIVED. GIVEN WITH THE SEED: THE CARDS: each row of YtdemoghlibnooaaGreatDoorRows.lean that lists a variable, with what it lists TIED to the program's text (the seventh form; the later family's looks); each row that meets fmt, with fmt's text TOLD by the authors' own Lean function (tested against real Go, not proved from fmt's source: count such statements apart). THE CARD IS WHAT COUNTS. Prove the row's statement (the work); the ties are given (YtdemoghlibnooaaGreatDoorTie.lean); close each card by the builder's one call (the guide's Derived/Test/ToyasCard.lean, 'card_holds'). Laid BY PROGRAM, IN A SANDBOX (cutbox-door.mjs). By AI agents, Wed Nov 11 2026. No macro, syntax, notation, axiom, sorry.
-/
import Derived.Test.YtdemoghlibnooaaGreatDoorRows
import GoSem.ClaimSeven
namespace Go.Proofs.YtdemoghlibnooaaGreatDoor
namespace Rows

/-- THE TIED CARD OF 'rampartlaw15.CompactNone'. -/
def compactNoneCard : Claim7 := { stood := { row := compactNoneRow, standIns := [], harness := (true, "d037f479e2d0eeb5c50983e0138de6577e8e46b65e96dd7e8fb3a309967a5b8b"), looks := true }, kinds := [], alts := [], laidByText := true, laidKinds := [.data, .data, .data, .data], laidTests := true, laidLooks := .later }
def CompactNoneCardSaid : Prop := Claim7.holds Tryz.pinned (.plain (OpenSpec.ofChange compactNoneSpec)) compactNoneCard

/-- THE TIED CARD OF 'rampartlaw15.CompactWhole'. -/
def compactWholeCard : Claim7 := { stood := { row := compactWholeRow, standIns := [], harness := (true, "d037f479e2d0eeb5c50983e0138de6577e8e46b65e96dd7e8fb3a309967a5b8b"), looks := true }, kinds := [], alts := [], laidByText := true, laidKinds := [.data, .data, .data, .data], laidTests := true, laidLooks := .later }
def CompactWholeCardSaid : Prop := Claim7.holds Tryz.pinned (.plain (OpenSpec.ofChange compactWholeSpec)) compactWholeCard

/-- THE TIED CARD OF 'rampartlaw15.CompactRuns'. -/
def compactRunsCard : Claim7 := { stood := { row := compactRunsRow, standIns := [], harness := (true, "d037f479e2d0eeb5c50983e0138de6577e8e46b65e96dd7e8fb3a309967a5b8b"), looks := true }, kinds := [], alts := [], laidByText := true, laidKinds := [.data, .data, .data, .data], laidTests := true, laidLooks := .later }
def CompactRunsCardSaid : Prop := Claim7.holds Tryz.pinned (.plain (OpenSpec.ofChange compactRunsSpec)) compactRunsCard

/-- THE SECOND FORM's CARD OF 'rampartlaw15.CompactNone'. -/
def compactNoneUptoCard : Claim7 := { stood := { row := compactNoneUptoRow, standIns := [], harness := (true, "d037f479e2d0eeb5c50983e0138de6577e8e46b65e96dd7e8fb3a309967a5b8b"), looks := true }, kinds := [], alts := [], laidByText := true, laidKinds := [.data, .data, .data, .data], laidTests := true, laidLooks := .later }
def CompactNoneUptoCardSaid : Prop := Claim7.holds Tryz.pinned (.plain (OpenSpec.upto compactNoneSpec)) compactNoneUptoCard

/-- THE SECOND FORM's CARD OF 'rampartlaw15.CompactWhole'. -/
def compactWholeUptoCard : Claim7 := { stood := { row := compactWholeUptoRow, standIns := [], harness := (true, "d037f479e2d0eeb5c50983e0138de6577e8e46b65e96dd7e8fb3a309967a5b8b"), looks := true }, kinds := [], alts := [], laidByText := true, laidKinds := [.data, .data, .data, .data], laidTests := true, laidLooks := .later }
def CompactWholeUptoCardSaid : Prop := Claim7.holds Tryz.pinned (.plain (OpenSpec.upto compactWholeSpec)) compactWholeUptoCard

/-- THE SECOND FORM's CARD OF 'rampartlaw15.CompactRuns'. -/
def compactRunsUptoCard : Claim7 := { stood := { row := compactRunsUptoRow, standIns := [], harness := (true, "d037f479e2d0eeb5c50983e0138de6577e8e46b65e96dd7e8fb3a309967a5b8b"), looks := true }, kinds := [], alts := [], laidByText := true, laidKinds := [.data, .data, .data, .data], laidTests := true, laidLooks := .later }
def CompactRunsUptoCardSaid : Prop := Claim7.holds Tryz.pinned (.plain (OpenSpec.upto compactRunsSpec)) compactRunsUptoCard
end Rows
end Go.Proofs.YtdemoghlibnooaaGreatDoor
