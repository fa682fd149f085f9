/-
  NARROWER THAN 'FOR EVERY INPUT', by the rows' own cells (each row's printed sentence says how): RecordNone: laid · RecordTold: laid · RecordTails: laid · RecordBack: laid · RecordMemory: laid · RecordBuilds: laid.
  DERIVED. THE GIVEN ROWS OF THIS SEAT. 6 by the template 'for every input the law returns true; each argument reads behind the call as it read before'; 0 by the template 'total and deterministic' (their statements: YtdalheeifgampaaDoorTotals.lean).
  GIVEN WITH THE SEED: the statements are not yours to turn. If you find one false, say at which input.
  Laid BY PROGRAM, IN A SANDBOX (cutbox-rows.mjs): the forced cells as the released guide's own fill.sh prints them over the translation 6e44b077fd42fb85… (all of the seat's roots in one cut). By AI agents, Wed Nov 11 2026. No macro, syntax, notation, axiom, sorry.
-/
import Derived.Test.YtdalheeifgampaaDoorChecked
import GoSem.Claim
import GoSem.ClaimJoined
import GoSem.ClaimMapViews
import Derived.JoinedTies
import Derived.KernelRfl
namespace Go.Proofs.YtdalheeifgampaaDoor
/- THE CELL 'sum', in the pinned program and in every row, IS THE sha256 OF THE DUMP (.gsa) THAT YtdalheeifgampaaDoorProg.lean LOADS. Nothing in Lean hashes anything: it is a label: what it is worth is what the hold of that sum in a sandbox is worth. -/
noncomputable def Tryd.pinned : Pinned := { name := "ytdalheeifgampaadoor", sum := "6e44b077fd42fb8536cef09d82ef07c357ab6ba8821e9a98d791545c8d23d9c7", checked := Tryd.checked }
namespace Rows
def none {H : Type} : Left H := { results := [], args := [] }

/- WHAT THE LISTED PACKAGE-LEVEL VARIABLES READ AS WHEN THE CALL BEGINS. Each datum BY PROGRAM (the guide's laid-datum.mjs) off the statement by which the dump's own 'gosem.cut.vars' lays the variable. In a bare row this is a premise. The card (YtdalheeifgampaaDoorCards.lean) ties it to the program's text. -/
def laid_rampart_sum_halfSteps {H : Type} : DataW H := .agg [.lit (.int .u32 0), .lit (.int .u32 498536548), .lit (.int .u32 997073096), .lit (.int .u32 651767980), .lit (.int .u32 1994146192), .lit (.int .u32 1802195444), .lit (.int .u32 1303535960), .lit (.int .u32 1342533948), .lit (.int .u32 3988292384), .lit (.int .u32 4027552580), .lit (.int .u32 3604390888), .lit (.int .u32 3412177804), .lit (.int .u32 2607071920), .lit (.int .u32 2262029012), .lit (.int .u32 2685067896), .lit (.int .u32 3183342108)]

/-- 'rampartlaw09.RecordNone': WHATEVER THE INPUT: true; the input reads as it did. -/
def recordNoneSpec : ChangeSpec := { name := "recordNone", fn := fun _ => fun
  | [d1, d2] => { results := [.lit (.bool true)], args := [d1, d2] }
  | _ => none }
def recordNoneRow : OpenClaim := { program := "ytdalheeifgampaadoor", sum := "6e44b077fd42fb8536cef09d82ef07c357ab6ba8821e9a98d791545c8d23d9c7", func := "rampart/rampartlaw09.RecordNone", spec := "recordNone", named := ["rampart/sum.halfSteps"], apart := false, laid := [("rampart/sum.halfSteps", laid_rampart_sum_halfSteps)] }
def RecordNoneSaid : Prop := recordNoneRow.holds Tryd.pinned (OpenSpec.ofChange recordNoneSpec)

/-- ITS FALSE NEIGHBOUR: 'it returns false'. Refute it at one input. -/
def recordNoneWrong : ChangeSpec := { name := "recordNone", fn := fun _ => fun
  | [d1, d2] => { results := [.lit (.bool false)], args := [d1, d2] }
  | _ => none }
def RecordNoneWrongFalsely : Prop := recordNoneRow.holds Tryd.pinned (OpenSpec.ofChange recordNoneWrong)

/-- 'rampartlaw09.RecordTold': WHATEVER THE INPUT: true; the input reads as it did. -/
def recordToldSpec : ChangeSpec := { name := "recordTold", fn := fun _ => fun
  | [d1, d2, d3] => { results := [.lit (.bool true)], args := [d1, d2, d3] }
  | _ => none }
def recordToldRow : OpenClaim := { program := "ytdalheeifgampaadoor", sum := "6e44b077fd42fb8536cef09d82ef07c357ab6ba8821e9a98d791545c8d23d9c7", func := "rampart/rampartlaw09.RecordTold", spec := "recordTold", named := ["rampart/sum.halfSteps"], apart := false, laid := [("rampart/sum.halfSteps", laid_rampart_sum_halfSteps)] }
def RecordToldSaid : Prop := recordToldRow.holds Tryd.pinned (OpenSpec.ofChange recordToldSpec)

/-- ITS FALSE NEIGHBOUR: 'it returns false'. Refute it at one input. -/
def recordToldWrong : ChangeSpec := { name := "recordTold", fn := fun _ => fun
  | [d1, d2, d3] => { results := [.lit (.bool false)], args := [d1, d2, d3] }
  | _ => none }
def RecordToldWrongFalsely : Prop := recordToldRow.holds Tryd.pinned (OpenSpec.ofChange recordToldWrong)

/-- 'rampartlaw09.RecordTails': WHATEVER THE INPUT: true; the input reads as it did. -/
def recordTailsSpec : ChangeSpec := { name := "recordTails", fn := fun _ => fun
  | [d1, d2] => { results := [.lit (.bool true)], args := [d1, d2] }
  | _ => none }
def recordTailsRow : OpenClaim := { program := "ytdalheeifgampaadoor", sum := "6e44b077fd42fb8536cef09d82ef07c357ab6ba8821e9a98d791545c8d23d9c7", func := "rampart/rampartlaw09.RecordTails", spec := "recordTails", named := ["rampart/sum.halfSteps"], apart := false, laid := [("rampart/sum.halfSteps", laid_rampart_sum_halfSteps)] }
def RecordTailsSaid : Prop := recordTailsRow.holds Tryd.pinned (OpenSpec.ofChange recordTailsSpec)

/-- ITS FALSE NEIGHBOUR: 'it returns false'. Refute it at one input. -/
def recordTailsWrong : ChangeSpec := { name := "recordTails", fn := fun _ => fun
  | [d1, d2] => { results := [.lit (.bool false)], args := [d1, d2] }
  | _ => none }
def RecordTailsWrongFalsely : Prop := recordTailsRow.holds Tryd.pinned (OpenSpec.ofChange recordTailsWrong)

/-- 'rampartlaw09.RecordBack': WHATEVER THE INPUT: true; the input reads as it did. -/
def recordBackSpec : ChangeSpec := { name := "recordBack", fn := fun _ => fun
  | [d1, d2, d3] => { results := [.lit (.bool true)], args := [d1, d2, d3] }
  | _ => none }
def recordBackRow : OpenClaim := { program := "ytdalheeifgampaadoor", sum := "6e44b077fd42fb8536cef09d82ef07c357ab6ba8821e9a98d791545c8d23d9c7", func := "rampart/rampartlaw09.RecordBack", spec := "recordBack", named := ["rampart/sum.halfSteps"], apart := false, laid := [("rampart/sum.halfSteps", laid_rampart_sum_halfSteps)] }
def RecordBackSaid : Prop := recordBackRow.holds Tryd.pinned (OpenSpec.ofChange recordBackSpec)

/-- ITS FALSE NEIGHBOUR: 'it returns false'. Refute it at one input. -/
def recordBackWrong : ChangeSpec := { name := "recordBack", fn := fun _ => fun
  | [d1, d2, d3] => { results := [.lit (.bool false)], args := [d1, d2, d3] }
  | _ => none }
def RecordBackWrongFalsely : Prop := recordBackRow.holds Tryd.pinned (OpenSpec.ofChange recordBackWrong)

/-- 'rampartlaw09.RecordMemory': WHATEVER THE INPUT: true; the input reads as it did. -/
def recordMemorySpec : ChangeSpec := { name := "recordMemory", fn := fun _ => fun
  | [d1, d2] => { results := [.lit (.bool true)], args := [d1, d2] }
  | _ => none }
def recordMemoryRow : OpenClaim := { program := "ytdalheeifgampaadoor", sum := "6e44b077fd42fb8536cef09d82ef07c357ab6ba8821e9a98d791545c8d23d9c7", func := "rampart/rampartlaw09.RecordMemory", spec := "recordMemory", named := ["rampart/sum.halfSteps"], apart := false, laid := [("rampart/sum.halfSteps", laid_rampart_sum_halfSteps)] }
def RecordMemorySaid : Prop := recordMemoryRow.holds Tryd.pinned (OpenSpec.ofChange recordMemorySpec)

/-- ITS FALSE NEIGHBOUR: 'it returns false'. Refute it at one input. -/
def recordMemoryWrong : ChangeSpec := { name := "recordMemory", fn := fun _ => fun
  | [d1, d2] => { results := [.lit (.bool false)], args := [d1, d2] }
  | _ => none }
def RecordMemoryWrongFalsely : Prop := recordMemoryRow.holds Tryd.pinned (OpenSpec.ofChange recordMemoryWrong)

/-- 'rampartlaw09.RecordBuilds': WHATEVER THE INPUT: true; the input reads as it did. -/
def recordBuildsSpec : ChangeSpec := { name := "recordBuilds", fn := fun _ => fun
  | [d] => { results := [.lit (.bool true)], args := [d] }
  | _ => none }
def recordBuildsRow : OpenClaim := { program := "ytdalheeifgampaadoor", sum := "6e44b077fd42fb8536cef09d82ef07c357ab6ba8821e9a98d791545c8d23d9c7", func := "rampart/rampartlaw09.RecordBuilds", spec := "recordBuilds", named := ["rampart/sum.halfSteps"], apart := false, laid := [("rampart/sum.halfSteps", laid_rampart_sum_halfSteps)] }
def RecordBuildsSaid : Prop := recordBuildsRow.holds Tryd.pinned (OpenSpec.ofChange recordBuildsSpec)

/-- ITS FALSE NEIGHBOUR: 'it returns false'. Refute it at one input. -/
def recordBuildsWrong : ChangeSpec := { name := "recordBuilds", fn := fun _ => fun
  | [d] => { results := [.lit (.bool false)], args := [d] }
  | _ => none }
def RecordBuildsWrongFalsely : Prop := recordBuildsRow.holds Tryd.pinned (OpenSpec.ofChange recordBuildsWrong)

/- THE SECOND FORM. 'bulk': how many values and letters a reading holds, each counted each time it is reached (what is shared counts as often as it is met; a slice's spare places count too). A statement '..UptoSaid' is the law's where the arguments, and the package variables that the reading takes, are together of bulk at most 1048576: NARROWER than '..Said'. Prove '..Said' where nothing that the law and all that it calls make is longer than what came in: it says more and counts as full. Else prove '..UptoSaid'. A law counts once. -/
mutual
def uptoBulk {H : Type} : DataW H → Nat
  | .lit (.string bytes) => bytes.length + 1
  | .lit _ => 1
  | .nil => 1
  | .ptr d => uptoBulk d + 1
  | .slice elems spare => uptoBulkAll elems + uptoBulkAll spare + 1
  | .agg parts => uptoBulkAll parts + 1
  | .iface _ d => uptoBulk d + 1
  | .map entries => uptoBulkEntries entries + 1
  | .held _ => 1
def uptoBulkAll {H : Type} : List (DataW H) → Nat
  | [] => 0
  | d :: r => uptoBulk d + uptoBulkAll r
def uptoBulkEntries {H : Type} : List (Lit × DataW H) → Nat
  | [] => 0
  | x :: r => uptoBulkEntry x + uptoBulkEntries r
def uptoBulkEntry {H : Type} : Lit × DataW H → Nat
  | (.string bytes, d) => bytes.length + uptoBulk d + 1
  | (_, d) => uptoBulk d + 1
 end
def uptoSmall : (H : Type) → List (DataW H) → Bool := fun _ ds => decide (uptoBulkAll ds ≤ 1048576)
def OpenSpec.upto (s : _root_.Go.ChangeSpec) : _root_.Go.OpenSpec := { _root_.Go.OpenSpec.ofChange s with cond := some uptoSmall }

/-- 'rampartlaw09.RecordNone', WHERE WHAT IT READS IS OF BULK AT MOST 1048576: true; the input reads as it did. -/
def recordNoneUptoRow : OpenClaim := { program := "ytdalheeifgampaadoor", sum := "6e44b077fd42fb8536cef09d82ef07c357ab6ba8821e9a98d791545c8d23d9c7", func := "rampart/rampartlaw09.RecordNone", spec := "recordNone", named := ["rampart/sum.halfSteps"], apart := false, laid := [("rampart/sum.halfSteps", laid_rampart_sum_halfSteps)], narrowed := true }
def RecordNoneUptoSaid : Prop := recordNoneUptoRow.holds Tryd.pinned (OpenSpec.upto recordNoneSpec)

/-- 'rampartlaw09.RecordTold', WHERE WHAT IT READS IS OF BULK AT MOST 1048576: true; the input reads as it did. -/
def recordToldUptoRow : OpenClaim := { program := "ytdalheeifgampaadoor", sum := "6e44b077fd42fb8536cef09d82ef07c357ab6ba8821e9a98d791545c8d23d9c7", func := "rampart/rampartlaw09.RecordTold", spec := "recordTold", named := ["rampart/sum.halfSteps"], apart := false, laid := [("rampart/sum.halfSteps", laid_rampart_sum_halfSteps)], narrowed := true }
def RecordToldUptoSaid : Prop := recordToldUptoRow.holds Tryd.pinned (OpenSpec.upto recordToldSpec)

/-- 'rampartlaw09.RecordTails', WHERE WHAT IT READS IS OF BULK AT MOST 1048576: true; the input reads as it did. -/
def recordTailsUptoRow : OpenClaim := { program := "ytdalheeifgampaadoor", sum := "6e44b077fd42fb8536cef09d82ef07c357ab6ba8821e9a98d791545c8d23d9c7", func := "rampart/rampartlaw09.RecordTails", spec := "recordTails", named := ["rampart/sum.halfSteps"], apart := false, laid := [("rampart/sum.halfSteps", laid_rampart_sum_halfSteps)], narrowed := true }
def RecordTailsUptoSaid : Prop := recordTailsUptoRow.holds Tryd.pinned (OpenSpec.upto recordTailsSpec)

/-- 'rampartlaw09.RecordBack', WHERE WHAT IT READS IS OF BULK AT MOST 1048576: true; the input reads as it did. -/
def recordBackUptoRow : OpenClaim := { program := "ytdalheeifgampaadoor", sum := "6e44b077fd42fb8536cef09d82ef07c357ab6ba8821e9a98d791545c8d23d9c7", func := "rampart/rampartlaw09.RecordBack", spec := "recordBack", named := ["rampart/sum.halfSteps"], apart := false, laid := [("rampart/sum.halfSteps", laid_rampart_sum_halfSteps)], narrowed := true }
def RecordBackUptoSaid : Prop := recordBackUptoRow.holds Tryd.pinned (OpenSpec.upto recordBackSpec)

/-- 'rampartlaw09.RecordMemory', WHERE WHAT IT READS IS OF BULK AT MOST 1048576: true; the input reads as it did. -/
def recordMemoryUptoRow : OpenClaim := { program := "ytdalheeifgampaadoor", sum := "6e44b077fd42fb8536cef09d82ef07c357ab6ba8821e9a98d791545c8d23d9c7", func := "rampart/rampartlaw09.RecordMemory", spec := "recordMemory", named := ["rampart/sum.halfSteps"], apart := false, laid := [("rampart/sum.halfSteps", laid_rampart_sum_halfSteps)], narrowed := true }
def RecordMemoryUptoSaid : Prop := recordMemoryUptoRow.holds Tryd.pinned (OpenSpec.upto recordMemorySpec)

/-- 'rampartlaw09.RecordBuilds', WHERE WHAT IT READS IS OF BULK AT MOST 1048576: true; the input reads as it did. -/
def recordBuildsUptoRow : OpenClaim := { program := "ytdalheeifgampaadoor", sum := "6e44b077fd42fb8536cef09d82ef07c357ab6ba8821e9a98d791545c8d23d9c7", func := "rampart/rampartlaw09.RecordBuilds", spec := "recordBuilds", named := ["rampart/sum.halfSteps"], apart := false, laid := [("rampart/sum.halfSteps", laid_rampart_sum_halfSteps)], narrowed := true }
def RecordBuildsUptoSaid : Prop := recordBuildsUptoRow.holds Tryd.pinned (OpenSpec.upto recordBuildsSpec)

end Rows
end Go.Proofs.YtdalheeifgampaaDoor
