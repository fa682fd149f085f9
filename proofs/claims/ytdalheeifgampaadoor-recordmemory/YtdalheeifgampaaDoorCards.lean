/-
  DERIVED. GIVEN WITH THE SEED: THE CARDS: each row of YtdalheeifgampaaDoorRows.lean that lists a variable, with what it lists TIED to the program's text (the seventh form; the later family's looks); each row that meets fmt, with fmt's text TOLD by the authors' own Lean function (tested against real Go, not proved from fmt's source: count such statements apart). THE CARD IS WHAT COUNTS. Prove the row's statement (the work); the ties are given (YtdalheeifgampaaDoorTie.lean); close each card by the builder's one call (the guide's Derived/Test/ToyasCard.lean, 'card_holds'). Laid BY PROGRAM, IN A SANDBOX (cutbox-door.mjs). By AI agents, Wed Nov 11 2026. No macro, syntax, notation, axiom, sorry.
-/
import Derived.Test.YtdalheeifgampaaDoorRows
import GoSem.ClaimSeven
namespace Go.Proofs.YtdalheeifgampaaDoor
namespace Rows

/-- THE TIED CARD OF 'rampartlaw09.RecordNone'. -/
def recordNoneCard : Claim7 := { stood := { row := recordNoneRow, standIns := [], harness := (true, "28edaa4d09aeedcede9c4d2c49185c760f089854dd0d5e9fcc1f38ef8cfcfc90"), looks := false }, kinds := [], alts := [], laidByText := true, laidKinds := [.data], laidTests := true, laidLooks := .later }
def RecordNoneCardSaid : Prop := Claim7.holds Tryd.pinned (.plain (OpenSpec.ofChange recordNoneSpec)) recordNoneCard

/-- THE TIED CARD OF 'rampartlaw09.RecordTold'. -/
def recordToldCard : Claim7 := { stood := { row := recordToldRow, standIns := [], harness := (true, "28edaa4d09aeedcede9c4d2c49185c760f089854dd0d5e9fcc1f38ef8cfcfc90"), looks := false }, kinds := [], alts := [], laidByText := true, laidKinds := [.data], laidTests := true, laidLooks := .later }
def RecordToldCardSaid : Prop := Claim7.holds Tryd.pinned (.plain (OpenSpec.ofChange recordToldSpec)) recordToldCard

/-- THE TIED CARD OF 'rampartlaw09.RecordTails'. -/
def recordTailsCard : Claim7 := { stood := { row := recordTailsRow, standIns := [], harness := (true, "28edaa4d09aeedcede9c4d2c49185c760f089854dd0d5e9fcc1f38ef8cfcfc90"), looks := false }, kinds := [], alts := [], laidByText := true, laidKinds := [.data], laidTests := true, laidLooks := .later }
def RecordTailsCardSaid : Prop := Claim7.holds Tryd.pinned (.plain (OpenSpec.ofChange recordTailsSpec)) recordTailsCard

/-- THE TIED CARD OF 'rampartlaw09.RecordBack'. -/
def recordBackCard : Claim7 := { stood := { row := recordBackRow, standIns := [], harness := (true, "28edaa4d09aeedcede9c4d2c49185c760f089854dd0d5e9fcc1f38ef8cfcfc90"), looks := false }, kinds := [], alts := [], laidByText := true, laidKinds := [.data], laidTests := true, laidLooks := .later }
def RecordBackCardSaid : Prop := Claim7.holds Tryd.pinned (.plain (OpenSpec.ofChange recordBackSpec)) recordBackCard

/-- THE TIED CARD OF 'rampartlaw09.RecordMemory'. -/
def recordMemoryCard : Claim7 := { stood := { row := recordMemoryRow, standIns := [], harness := (true, "28edaa4d09aeedcede9c4d2c49185c760f089854dd0d5e9fcc1f38ef8cfcfc90"), looks := false }, kinds := [], alts := [], laidByText := true, laidKinds := [.data], laidTests := true, laidLooks := .later }
def RecordMemoryCardSaid : Prop := Claim7.holds Tryd.pinned (.plain (OpenSpec.ofChange recordMemorySpec)) recordMemoryCard

/-- THE TIED CARD OF 'rampartlaw09.RecordBuilds'. -/
def recordBuildsCard : Claim7 := { stood := { row := recordBuildsRow, standIns := [], harness := (true, "28edaa4d09aeedcede9c4d2c49185c760f089854dd0d5e9fcc1f38ef8cfcfc90"), looks := false }, kinds := [], alts := [], laidByText := true, laidKinds := [.data], laidTests := true, laidLooks := .later }
def RecordBuildsCardSaid : Prop := Claim7.holds Tryd.pinned (.plain (OpenSpec.ofChange recordBuildsSpec)) recordBuildsCard

/-- THE SECOND FORM's CARD OF 'rampartlaw09.RecordNone'. -/
def recordNoneUptoCard : Claim7 := { stood := { row := recordNoneUptoRow, standIns := [], harness := (true, "28edaa4d09aeedcede9c4d2c49185c760f089854dd0d5e9fcc1f38ef8cfcfc90"), looks := false }, kinds := [], alts := [], laidByText := true, laidKinds := [.data], laidTests := true, laidLooks := .later }
def RecordNoneUptoCardSaid : Prop := Claim7.holds Tryd.pinned (.plain (OpenSpec.upto recordNoneSpec)) recordNoneUptoCard

/-- THE SECOND FORM's CARD OF 'rampartlaw09.RecordTold'. -/
def recordToldUptoCard : Claim7 := { stood := { row := recordToldUptoRow, standIns := [], harness := (true, "28edaa4d09aeedcede9c4d2c49185c760f089854dd0d5e9fcc1f38ef8cfcfc90"), looks := false }, kinds := [], alts := [], laidByText := true, laidKinds := [.data], laidTests := true, laidLooks := .later }
def RecordToldUptoCardSaid : Prop := Claim7.holds Tryd.pinned (.plain (OpenSpec.upto recordToldSpec)) recordToldUptoCard

/-- THE SECOND FORM's CARD OF 'rampartlaw09.RecordTails'. -/
def recordTailsUptoCard : Claim7 := { stood := { row := recordTailsUptoRow, standIns := [], harness := (true, "28edaa4d09aeedcede9c4d2c49185c760f089854dd0d5e9fcc1f38ef8cfcfc90"), looks := false }, kinds := [], alts := [], laidByText := true, laidKinds := [.data], laidTests := true, laidLooks := .later }
def RecordTailsUptoCardSaid : Prop := Claim7.holds Tryd.pinned (.plain (OpenSpec.upto recordTailsSpec)) recordTailsUptoCard

/-- THE SECOND FORM's CARD OF 'rampartlaw09.RecordBack'. -/
def recordBackUptoCard : Claim7 := { stood := { row := recordBackUptoRow, standIns := [], harness := (true, "28edaa4d09aeedcede9c4d2c49185c760f089854dd0d5e9fcc1f38ef8cfcfc90"), looks := false }, kinds := [], alts := [], laidByText := true, laidKinds := [.data], laidTests := true, laidLooks := .later }
def RecordBackUptoCardSaid : Prop := Claim7.holds Tryd.pinned (.plain (OpenSpec.upto recordBackSpec)) recordBackUptoCard

/-- THE SECOND FORM's CARD OF 'rampartlaw09.RecordMemory'. -/
def recordMemoryUptoCard : Claim7 := { stood := { row := recordMemoryUptoRow, standIns := [], harness := (true, "28edaa4d09aeedcede9c4d2c49185c760f089854dd0d5e9fcc1f38ef8cfcfc90"), looks := false }, kinds := [], alts := [], laidByText := true, laidKinds := [.data], laidTests := true, laidLooks := .later }
def RecordMemoryUptoCardSaid : Prop := Claim7.holds Tryd.pinned (.plain (OpenSpec.upto recordMemorySpec)) recordMemoryUptoCard

/-- THE SECOND FORM's CARD OF 'rampartlaw09.RecordBuilds'. -/
def recordBuildsUptoCard : Claim7 := { stood := { row := recordBuildsUptoRow, standIns := [], harness := (true, "28edaa4d09aeedcede9c4d2c49185c760f089854dd0d5e9fcc1f38ef8cfcfc90"), looks := false }, kinds := [], alts := [], laidByText := true, laidKinds := [.data], laidTests := true, laidLooks := .later }
def RecordBuildsUptoCardSaid : Prop := Claim7.holds Tryd.pinned (.plain (OpenSpec.upto recordBuildsSpec)) recordBuildsUptoCard
end Rows
end Go.Proofs.YtdalheeifgampaaDoor
