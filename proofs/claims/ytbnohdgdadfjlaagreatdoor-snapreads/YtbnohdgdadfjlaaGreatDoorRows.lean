/-
  NARROWER THAN 'FOR EVERY INPUT', by the rows' own cells (each row's printed sentence says how): SnapBursts: laid · SnapWhole: laid · SnapBack: laid · SnapLays: laid · SnapReads: laid.
  DERIVED. THE GIVEN ROWS OF THIS SEAT. 5 by the template 'for every input the law returns true; each argument reads behind the call as it read before'; 0 by the template 'total and deterministic' (their statements: YtbnohdgdadfjlaaGreatDoorTotals.lean).
  GIVEN WITH THE SEED: the statements are not yours to turn. If you find one false, say at which input.
  Laid BY PROGRAM, IN A SANDBOX (cutbox-rows.mjs): the forced cells as the released guide's own fill.sh prints them over the translation f64a68d87444f42b… (all of the seat's roots in one cut). By AI agents, Wed Nov 11 2026. No macro, syntax, notation, axiom, sorry.
-/
import Derived.Test.YtbnohdgdadfjlaaGreatDoorChecked
import GoSem.Claim
import GoSem.ClaimJoined
import GoSem.ClaimMapViews
import Derived.JoinedTies
import Derived.KernelRfl
namespace Go.Proofs.YtbnohdgdadfjlaaGreatDoor
/- THE CELL 'sum', in the pinned program and in every row, IS THE sha256 OF THE DUMP (.gsa) THAT YtbnohdgdadfjlaaGreatDoorProg.lean LOADS. Nothing in Lean hashes anything: it is a label: what it is worth is what the hold of that sum in a sandbox is worth. -/
noncomputable def Tryz.pinned : Pinned := { name := "ytbnohdgdadfjlaagreatdoor", sum := "f64a68d87444f42b2aa861c37b98fff86c663f69b847030dd7b15b2359efa71a", checked := Tryz.checked }
namespace Rows
def none {H : Type} : Left H := { results := [], args := [] }

/- WHAT THE LISTED PACKAGE-LEVEL VARIABLES READ AS WHEN THE CALL BEGINS. Each datum BY PROGRAM (the guide's laid-datum.mjs) off the statement by which the dump's own 'gosem.cut.vars' lays the variable. In a bare row this is a premise. The card (YtbnohdgdadfjlaaGreatDoorCards.lean) ties it to the program's text. -/
def laid_rampart_sum_halfSteps {H : Type} : DataW H := .agg [.lit (.int .u32 0), .lit (.int .u32 498536548), .lit (.int .u32 997073096), .lit (.int .u32 651767980), .lit (.int .u32 1994146192), .lit (.int .u32 1802195444), .lit (.int .u32 1303535960), .lit (.int .u32 1342533948), .lit (.int .u32 3988292384), .lit (.int .u32 4027552580), .lit (.int .u32 3604390888), .lit (.int .u32 3412177804), .lit (.int .u32 2607071920), .lit (.int .u32 2262029012), .lit (.int .u32 2685067896), .lit (.int .u32 3183342108)]

/-- 'rampartlaw13.SnapBursts': WHATEVER THE INPUT: true; the input reads as it did. -/
def snapBurstsSpec : ChangeSpec := { name := "snapBursts", fn := fun _ => fun
  | [d1, d2, d3] => { results := [.lit (.bool true)], args := [d1, d2, d3] }
  | _ => none }
def snapBurstsRow : OpenClaim := { program := "ytbnohdgdadfjlaagreatdoor", sum := "f64a68d87444f42b2aa861c37b98fff86c663f69b847030dd7b15b2359efa71a", func := "rampart/rampartlaw13.SnapBursts", spec := "snapBursts", inPlace := ["internal/bytealg.abigen_runtime_cmpstring"], unfollowed := true, recurses := true, named := ["rampart/sum.halfSteps"], plainKeys := false, apart := false, laid := [("rampart/sum.halfSteps", laid_rampart_sum_halfSteps)] }
def SnapBurstsSaid : Prop := snapBurstsRow.holds Tryz.pinned (OpenSpec.ofChange snapBurstsSpec)

/-- ITS FALSE NEIGHBOUR: 'it returns false'. Refute it at one input. -/
def snapBurstsWrong : ChangeSpec := { name := "snapBursts", fn := fun _ => fun
  | [d1, d2, d3] => { results := [.lit (.bool false)], args := [d1, d2, d3] }
  | _ => none }
def SnapBurstsWrongFalsely : Prop := snapBurstsRow.holds Tryz.pinned (OpenSpec.ofChange snapBurstsWrong)

/-- 'rampartlaw13.SnapWhole': WHATEVER THE INPUT: true; the input reads as it did. -/
def snapWholeSpec : ChangeSpec := { name := "snapWhole", fn := fun _ => fun
  | [d1, d2] => { results := [.lit (.bool true)], args := [d1, d2] }
  | _ => none }
def snapWholeRow : OpenClaim := { program := "ytbnohdgdadfjlaagreatdoor", sum := "f64a68d87444f42b2aa861c37b98fff86c663f69b847030dd7b15b2359efa71a", func := "rampart/rampartlaw13.SnapWhole", spec := "snapWhole", inPlace := ["internal/bytealg.abigen_runtime_cmpstring"], unfollowed := true, recurses := true, named := ["rampart/sum.halfSteps"], plainKeys := false, apart := false, laid := [("rampart/sum.halfSteps", laid_rampart_sum_halfSteps)] }
def SnapWholeSaid : Prop := snapWholeRow.holds Tryz.pinned (OpenSpec.ofChange snapWholeSpec)

/-- ITS FALSE NEIGHBOUR: 'it returns false'. Refute it at one input. -/
def snapWholeWrong : ChangeSpec := { name := "snapWhole", fn := fun _ => fun
  | [d1, d2] => { results := [.lit (.bool false)], args := [d1, d2] }
  | _ => none }
def SnapWholeWrongFalsely : Prop := snapWholeRow.holds Tryz.pinned (OpenSpec.ofChange snapWholeWrong)

/-- 'rampartlaw13.SnapBack': WHATEVER THE INPUT: true; the input reads as it did. -/
def snapBackSpec : ChangeSpec := { name := "snapBack", fn := fun _ => fun
  | [d1, d2, d3, d4] => { results := [.lit (.bool true)], args := [d1, d2, d3, d4] }
  | _ => none }
def snapBackRow : OpenClaim := { program := "ytbnohdgdadfjlaagreatdoor", sum := "f64a68d87444f42b2aa861c37b98fff86c663f69b847030dd7b15b2359efa71a", func := "rampart/rampartlaw13.SnapBack", spec := "snapBack", inPlace := ["internal/bytealg.abigen_runtime_cmpstring"], unfollowed := true, recurses := true, named := ["rampart/sum.halfSteps"], plainKeys := false, apart := false, laid := [("rampart/sum.halfSteps", laid_rampart_sum_halfSteps)] }
def SnapBackSaid : Prop := snapBackRow.holds Tryz.pinned (OpenSpec.ofChange snapBackSpec)

/-- ITS FALSE NEIGHBOUR: 'it returns false'. Refute it at one input. -/
def snapBackWrong : ChangeSpec := { name := "snapBack", fn := fun _ => fun
  | [d1, d2, d3, d4] => { results := [.lit (.bool false)], args := [d1, d2, d3, d4] }
  | _ => none }
def SnapBackWrongFalsely : Prop := snapBackRow.holds Tryz.pinned (OpenSpec.ofChange snapBackWrong)

/-- 'rampartlaw13.SnapLays': WHATEVER THE INPUT: true; the input reads as it did. -/
def snapLaysSpec : ChangeSpec := { name := "snapLays", fn := fun _ => fun
  | [d1, d2] => { results := [.lit (.bool true)], args := [d1, d2] }
  | _ => none }
def snapLaysRow : OpenClaim := { program := "ytbnohdgdadfjlaagreatdoor", sum := "f64a68d87444f42b2aa861c37b98fff86c663f69b847030dd7b15b2359efa71a", func := "rampart/rampartlaw13.SnapLays", spec := "snapLays", inPlace := ["internal/bytealg.abigen_runtime_cmpstring"], unfollowed := true, recurses := true, named := ["rampart/sum.halfSteps"], plainKeys := false, apart := false, laid := [("rampart/sum.halfSteps", laid_rampart_sum_halfSteps)] }
def SnapLaysSaid : Prop := snapLaysRow.holds Tryz.pinned (OpenSpec.ofChange snapLaysSpec)

/-- ITS FALSE NEIGHBOUR: 'it returns false'. Refute it at one input. -/
def snapLaysWrong : ChangeSpec := { name := "snapLays", fn := fun _ => fun
  | [d1, d2] => { results := [.lit (.bool false)], args := [d1, d2] }
  | _ => none }
def SnapLaysWrongFalsely : Prop := snapLaysRow.holds Tryz.pinned (OpenSpec.ofChange snapLaysWrong)

/-- 'rampartlaw13.SnapReads': WHATEVER THE INPUT: true; the input reads as it did. -/
def snapReadsSpec : ChangeSpec := { name := "snapReads", fn := fun _ => fun
  | [d1, d2] => { results := [.lit (.bool true)], args := [d1, d2] }
  | _ => none }
def snapReadsRow : OpenClaim := { program := "ytbnohdgdadfjlaagreatdoor", sum := "f64a68d87444f42b2aa861c37b98fff86c663f69b847030dd7b15b2359efa71a", func := "rampart/rampartlaw13.SnapReads", spec := "snapReads", inPlace := ["internal/bytealg.abigen_runtime_cmpstring"], unfollowed := true, recurses := true, named := ["rampart/sum.halfSteps"], plainKeys := false, apart := false, laid := [("rampart/sum.halfSteps", laid_rampart_sum_halfSteps)] }
def SnapReadsSaid : Prop := snapReadsRow.holds Tryz.pinned (OpenSpec.ofChange snapReadsSpec)

/-- ITS FALSE NEIGHBOUR: 'it returns false'. Refute it at one input. -/
def snapReadsWrong : ChangeSpec := { name := "snapReads", fn := fun _ => fun
  | [d1, d2] => { results := [.lit (.bool false)], args := [d1, d2] }
  | _ => none }
def SnapReadsWrongFalsely : Prop := snapReadsRow.holds Tryz.pinned (OpenSpec.ofChange snapReadsWrong)

/- THE SECOND FORM. 'bulk': how many values and letters a reading holds, each counted each time it is reached (what is shared counts as often as it is met; a slice's spare places count too). A statement '..UptoSaid' is the law's where the arguments, and the package variables that the reading takes, are together of bulk at most 1048576: NARROWER than '..Said'. Prove '..Said' where nothing that the law and all that it calls make is longer than what came in: it says more and counts as full. Else prove '..UptoSaid'. A law counts once. -/
mutual
def uptoBulk {H : Type} : DataW H → Nat
  | .lit (.string bytes) => bytes.length + 1
  | .lit _ => 1
  | .nil => 1
  | .ptr d => uptoBulk d + 1
  | .slice elems spare => uptoBulkAll elems + uptoBulkAll spare + 1
  | .agg parts => uptoBulkAll parts + 1
  | .iface _ d => uptoBulk d + 1
  | .map entries => uptoBulkEntries entries + 1
  | .held _ => 1
def uptoBulkAll {H : Type} : List (DataW H) → Nat
  | [] => 0
  | d :: r => uptoBulk d + uptoBulkAll r
def uptoBulkEntries {H : Type} : List (Lit × DataW H) → Nat
  | [] => 0
  | x :: r => uptoBulkEntry x + uptoBulkEntries r
def uptoBulkEntry {H : Type} : Lit × DataW H → Nat
  | (.string bytes, d) => bytes.length + uptoBulk d + 1
  | (_, d) => uptoBulk d + 1
 end
def uptoSmall : (H : Type) → List (DataW H) → Bool := fun _ ds => decide (uptoBulkAll ds ≤ 1048576)
def OpenSpec.upto (s : _root_.Go.ChangeSpec) : _root_.Go.OpenSpec := { _root_.Go.OpenSpec.ofChange s with cond := some uptoSmall }

/-- 'rampartlaw13.SnapBursts', WHERE WHAT IT READS IS OF BULK AT MOST 1048576: true; the input reads as it did. -/
def snapBurstsUptoRow : OpenClaim := { program := "ytbnohdgdadfjlaagreatdoor", sum := "f64a68d87444f42b2aa861c37b98fff86c663f69b847030dd7b15b2359efa71a", func := "rampart/rampartlaw13.SnapBursts", spec := "snapBursts", inPlace := ["internal/bytealg.abigen_runtime_cmpstring"], unfollowed := true, recurses := true, named := ["rampart/sum.halfSteps"], plainKeys := false, apart := false, laid := [("rampart/sum.halfSteps", laid_rampart_sum_halfSteps)], narrowed := true }
def SnapBurstsUptoSaid : Prop := snapBurstsUptoRow.holds Tryz.pinned (OpenSpec.upto snapBurstsSpec)

/-- 'rampartlaw13.SnapWhole', WHERE WHAT IT READS IS OF BULK AT MOST 1048576: true; the input reads as it did. -/
def snapWholeUptoRow : OpenClaim := { program := "ytbnohdgdadfjlaagreatdoor", sum := "f64a68d87444f42b2aa861c37b98fff86c663f69b847030dd7b15b2359efa71a", func := "rampart/rampartlaw13.SnapWhole", spec := "snapWhole", inPlace := ["internal/bytealg.abigen_runtime_cmpstring"], unfollowed := true, recurses := true, named := ["rampart/sum.halfSteps"], plainKeys := false, apart := false, laid := [("rampart/sum.halfSteps", laid_rampart_sum_halfSteps)], narrowed := true }
def SnapWholeUptoSaid : Prop := snapWholeUptoRow.holds Tryz.pinned (OpenSpec.upto snapWholeSpec)

/-- 'rampartlaw13.SnapBack', WHERE WHAT IT READS IS OF BULK AT MOST 1048576: true; the input reads as it did. -/
def snapBackUptoRow : OpenClaim := { program := "ytbnohdgdadfjlaagreatdoor", sum := "f64a68d87444f42b2aa861c37b98fff86c663f69b847030dd7b15b2359efa71a", func := "rampart/rampartlaw13.SnapBack", spec := "snapBack", inPlace := ["internal/bytealg.abigen_runtime_cmpstring"], unfollowed := true, recurses := true, named := ["rampart/sum.halfSteps"], plainKeys := false, apart := false, laid := [("rampart/sum.halfSteps", laid_rampart_sum_halfSteps)], narrowed := true }
def SnapBackUptoSaid : Prop := snapBackUptoRow.holds Tryz.pinned (OpenSpec.upto snapBackSpec)

/-- 'rampartlaw13.SnapLays', WHERE WHAT IT READS IS OF BULK AT MOST 1048576: true; the input reads as it did. -/
def snapLaysUptoRow : OpenClaim := { program := "ytbnohdgdadfjlaagreatdoor", sum := "f64a68d87444f42b2aa861c37b98fff86c663f69b847030dd7b15b2359efa71a", func := "rampart/rampartlaw13.SnapLays", spec := "snapLays", inPlace := ["internal/bytealg.abigen_runtime_cmpstring"], unfollowed := true, recurses := true, named := ["rampart/sum.halfSteps"], plainKeys := false, apart := false, laid := [("rampart/sum.halfSteps", laid_rampart_sum_halfSteps)], narrowed := true }
def SnapLaysUptoSaid : Prop := snapLaysUptoRow.holds Tryz.pinned (OpenSpec.upto snapLaysSpec)

/-- 'rampartlaw13.SnapReads', WHERE WHAT IT READS IS OF BULK AT MOST 1048576: true; the input reads as it did. -/
def snapReadsUptoRow : OpenClaim := { program := "ytbnohdgdadfjlaagreatdoor", sum := "f64a68d87444f42b2aa861c37b98fff86c663f69b847030dd7b15b2359efa71a", func := "rampart/rampartlaw13.SnapReads", spec := "snapReads", inPlace := ["internal/bytealg.abigen_runtime_cmpstring"], unfollowed := true, recurses := true, named := ["rampart/sum.halfSteps"], plainKeys := false, apart := false, laid := [("rampart/sum.halfSteps", laid_rampart_sum_halfSteps)], narrowed := true }
def SnapReadsUptoSaid : Prop := snapReadsUptoRow.holds Tryz.pinned (OpenSpec.upto snapReadsSpec)

end Rows
end Go.Proofs.YtbnohdgdadfjlaaGreatDoor
