/-
  DERIVED. GIVEN WITH THE SEED: THE CARDS: each row of YtjkljljmjjnneaaDoorRows.lean that lists a variable, with what it lists TIED to the program's text (the seventh form; the later family's looks); each row that meets fmt, with fmt's text TOLD by the authors' own Lean function (tested against real Go, not proved from fmt's source: count such statements apart). THE CARD IS WHAT COUNTS. Prove the row's statement (the work); the ties are given (YtjkljljmjjnneaaDoorTie.lean); close each card by the builder's one call (the guide's Derived/Test/ToyasCard.lean, 'card_holds'). Laid BY PROGRAM, IN A SANDBOX (cutbox-door.mjs). By AI agents, Wed Nov 11 2026. No macro, syntax, notation, axiom, sorry.
-/
import Derived.Test.YtjkljljmjjnneaaDoorRows
import GoSem.ClaimSeven
namespace Go.Proofs.YtjkljljmjjnneaaDoor
namespace Rows

/-- THE TIED CARD OF 'rampartlaw23.HistoryForms'. -/
def historyFormsCard : Claim7 := { stood := { row := historyFormsRow, standIns := [], harness := (true, "70af85250d4a35aa31262ba87824e9b284c970b2b818f3081708faedfcd704d8"), looks := true }, kinds := [], alts := [], laidByText := true, laidKinds := [.data, .data, .data, .data, .sentinel, .sentinel, .data, .pinned], laidTests := true, laidLooks := .later }
def HistoryFormsCardSaid : Prop := Claim7.holds Tryd.pinned (.plain (OpenSpec.ofChange historyFormsSpec)) historyFormsCard

/-- THE TIED CARD OF 'rampartlaw23.HistoryBack'. -/
def historyBackCard : Claim7 := { stood := { row := historyBackRow, standIns := [], harness := (true, "70af85250d4a35aa31262ba87824e9b284c970b2b818f3081708faedfcd704d8"), looks := true }, kinds := [], alts := [], laidByText := true, laidKinds := [.data, .data, .data, .data, .sentinel, .sentinel, .data, .pinned], laidTests := true, laidLooks := .later }
def HistoryBackCardSaid : Prop := Claim7.holds Tryd.pinned (.plain (OpenSpec.ofChange historyBackSpec)) historyBackCard

/-- THE TIED CARD OF 'rampartlaw23.HistorySpoilt'. -/
def historySpoiltCard : Claim7 := { stood := { row := historySpoiltRow, standIns := [], harness := (true, "70af85250d4a35aa31262ba87824e9b284c970b2b818f3081708faedfcd704d8"), looks := true }, kinds := [], alts := [], laidByText := true, laidKinds := [.data, .data, .data, .data, .sentinel, .sentinel, .data, .pinned], laidTests := true, laidLooks := .later }
def HistorySpoiltCardSaid : Prop := Claim7.holds Tryd.pinned (.plain (OpenSpec.ofChange historySpoiltSpec)) historySpoiltCard

/-- THE SECOND FORM's CARD OF 'rampartlaw23.HistoryForms'. -/
def historyFormsUptoCard : Claim7 := { stood := { row := historyFormsUptoRow, standIns := [], harness := (true, "70af85250d4a35aa31262ba87824e9b284c970b2b818f3081708faedfcd704d8"), looks := true }, kinds := [], alts := [], laidByText := true, laidKinds := [.data, .data, .data, .data, .sentinel, .sentinel, .data, .pinned], laidTests := true, laidLooks := .later }
def HistoryFormsUptoCardSaid : Prop := Claim7.holds Tryd.pinned (.plain (OpenSpec.upto historyFormsSpec)) historyFormsUptoCard

/-- THE SECOND FORM's CARD OF 'rampartlaw23.HistoryBack'. -/
def historyBackUptoCard : Claim7 := { stood := { row := historyBackUptoRow, standIns := [], harness := (true, "70af85250d4a35aa31262ba87824e9b284c970b2b818f3081708faedfcd704d8"), looks := true }, kinds := [], alts := [], laidByText := true, laidKinds := [.data, .data, .data, .data, .sentinel, .sentinel, .data, .pinned], laidTests := true, laidLooks := .later }
def HistoryBackUptoCardSaid : Prop := Claim7.holds Tryd.pinned (.plain (OpenSpec.upto historyBackSpec)) historyBackUptoCard

/-- THE SECOND FORM's CARD OF 'rampartlaw23.HistorySpoilt'. -/
def historySpoiltUptoCard : Claim7 := { stood := { row := historySpoiltUptoRow, standIns := [], harness := (true, "70af85250d4a35aa31262ba87824e9b284c970b2b818f3081708faedfcd704d8"), looks := true }, kinds := [], alts := [], laidByText := true, laidKinds := [.data, .data, .data, .data, .sentinel, .sentinel, .data, .pinned], laidTests := true, laidLooks := .later }
def HistorySpoiltUptoCardSaid : Prop := Claim7.holds Tryd.pinned (.plain (OpenSpec.upto historySpoiltSpec)) historySpoiltUptoCard
end Rows
end Go.Proofs.YtjkljljmjjnneaaDoor
