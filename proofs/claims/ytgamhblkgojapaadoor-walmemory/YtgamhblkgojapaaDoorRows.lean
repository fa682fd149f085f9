/-
  NARROWER THAN 'FOR EVERY INPUT', by the rows' own cells (each row's printed sentence says how): WalTorn: laid · WalMemory: laid · WalKeeps: laid · WalRefused: laid.
  DERIVED. THE GIVEN ROWS OF THIS SEAT. 4 by the template 'for every input the law returns true; each argument reads behind the call as it read before'; 0 by the template 'total and deterministic' (their statements: YtgamhblkgojapaaDoorTotals.lean).
  GIVEN WITH THE SEED: the statements are not yours to turn. If you find one false, say at which input.
  Laid BY PROGRAM, IN A SANDBOX (cutbox-rows.mjs): the forced cells as the released guide's own fill.sh prints them over the translation afc49dde5dde9b15… (all of the seat's roots in one cut). By AI agents, Wed Nov 11 2026. No macro, syntax, notation, axiom, sorry.
-/
import Derived.Test.YtgamhblkgojapaaDoorChecked
import GoSem.Claim
import GoSem.ClaimJoined
import GoSem.ClaimMapViews
import Derived.JoinedTies
import Derived.KernelRfl
namespace Go.Proofs.YtgamhblkgojapaaDoor
/- THE CELL 'sum', in the pinned program and in every row, IS THE sha256 OF THE DUMP (.gsa) THAT YtgamhblkgojapaaDoorProg.lean LOADS. Nothing in Lean hashes anything: it is a label: what it is worth is what the hold of that sum in a sandbox is worth. -/
noncomputable def Tryd.pinned : Pinned := { name := "ytgamhblkgojapaadoor", sum := "afc49dde5dde9b1529aabb9c1b2c6f84421f2db1f764e7b399ec5367f7e5130c", checked := Tryd.checked }
namespace Rows
def none {H : Type} : Left H := { results := [], args := [] }

/- WHAT THE LISTED PACKAGE-LEVEL VARIABLES READ AS WHEN THE CALL BEGINS. Each datum BY PROGRAM (the guide's laid-datum.mjs) off the statement by which the dump's own 'gosem.cut.vars' lays the variable. In a bare row this is a premise. The card (YtgamhblkgojapaaDoorCards.lean) ties it to the program's text. -/
def laid_rampart_sum_halfSteps {H : Type} : DataW H := .agg [.lit (.int .u32 0), .lit (.int .u32 498536548), .lit (.int .u32 997073096), .lit (.int .u32 651767980), .lit (.int .u32 1994146192), .lit (.int .u32 1802195444), .lit (.int .u32 1303535960), .lit (.int .u32 1342533948), .lit (.int .u32 3988292384), .lit (.int .u32 4027552580), .lit (.int .u32 3604390888), .lit (.int .u32 3412177804), .lit (.int .u32 2607071920), .lit (.int .u32 2262029012), .lit (.int .u32 2685067896), .lit (.int .u32 3183342108)]

/-- 'rampartlaw10.WalTorn': WHATEVER THE INPUT: true; the input reads as it did. -/
def walTornSpec : ChangeSpec := { name := "walTorn", fn := fun _ => fun
  | [d1, d2, d3] => { results := [.lit (.bool true)], args := [d1, d2, d3] }
  | _ => none }
def walTornRow : OpenClaim := { program := "ytgamhblkgojapaadoor", sum := "afc49dde5dde9b1529aabb9c1b2c6f84421f2db1f764e7b399ec5367f7e5130c", func := "rampart/rampartlaw10.WalTorn", spec := "walTorn", named := ["rampart/sum.halfSteps"], apart := false, laid := [("rampart/sum.halfSteps", laid_rampart_sum_halfSteps)] }
def WalTornSaid : Prop := walTornRow.holds Tryd.pinned (OpenSpec.ofChange walTornSpec)

/-- ITS FALSE NEIGHBOUR: 'it returns false'. Refute it at one input. -/
def walTornWrong : ChangeSpec := { name := "walTorn", fn := fun _ => fun
  | [d1, d2, d3] => { results := [.lit (.bool false)], args := [d1, d2, d3] }
  | _ => none }
def WalTornWrongFalsely : Prop := walTornRow.holds Tryd.pinned (OpenSpec.ofChange walTornWrong)

/-- 'rampartlaw10.WalMemory': WHATEVER THE INPUT: true; the input reads as it did. -/
def walMemorySpec : ChangeSpec := { name := "walMemory", fn := fun _ => fun
  | [d] => { results := [.lit (.bool true)], args := [d] }
  | _ => none }
def walMemoryRow : OpenClaim := { program := "ytgamhblkgojapaadoor", sum := "afc49dde5dde9b1529aabb9c1b2c6f84421f2db1f764e7b399ec5367f7e5130c", func := "rampart/rampartlaw10.WalMemory", spec := "walMemory", named := ["rampart/sum.halfSteps"], apart := false, laid := [("rampart/sum.halfSteps", laid_rampart_sum_halfSteps)] }
def WalMemorySaid : Prop := walMemoryRow.holds Tryd.pinned (OpenSpec.ofChange walMemorySpec)

/-- ITS FALSE NEIGHBOUR: 'it returns false'. Refute it at one input. -/
def walMemoryWrong : ChangeSpec := { name := "walMemory", fn := fun _ => fun
  | [d] => { results := [.lit (.bool false)], args := [d] }
  | _ => none }
def WalMemoryWrongFalsely : Prop := walMemoryRow.holds Tryd.pinned (OpenSpec.ofChange walMemoryWrong)

/-- 'rampartlaw10.WalKeeps': WHATEVER THE INPUT: true; the input reads as it did. -/
def walKeepsSpec : ChangeSpec := { name := "walKeeps", fn := fun _ => fun
  | [d] => { results := [.lit (.bool true)], args := [d] }
  | _ => none }
def walKeepsRow : OpenClaim := { program := "ytgamhblkgojapaadoor", sum := "afc49dde5dde9b1529aabb9c1b2c6f84421f2db1f764e7b399ec5367f7e5130c", func := "rampart/rampartlaw10.WalKeeps", spec := "walKeeps", named := ["rampart/sum.halfSteps"], apart := false, laid := [("rampart/sum.halfSteps", laid_rampart_sum_halfSteps)] }
def WalKeepsSaid : Prop := walKeepsRow.holds Tryd.pinned (OpenSpec.ofChange walKeepsSpec)

/-- ITS FALSE NEIGHBOUR: 'it returns false'. Refute it at one input. -/
def walKeepsWrong : ChangeSpec := { name := "walKeeps", fn := fun _ => fun
  | [d] => { results := [.lit (.bool false)], args := [d] }
  | _ => none }
def WalKeepsWrongFalsely : Prop := walKeepsRow.holds Tryd.pinned (OpenSpec.ofChange walKeepsWrong)

/-- 'rampartlaw10.WalRefused': WHATEVER THE INPUT: true; the input reads as it did. -/
def walRefusedSpec : ChangeSpec := { name := "walRefused", fn := fun _ => fun
  | [d1, d2] => { results := [.lit (.bool true)], args := [d1, d2] }
  | _ => none }
def walRefusedRow : OpenClaim := { program := "ytgamhblkgojapaadoor", sum := "afc49dde5dde9b1529aabb9c1b2c6f84421f2db1f764e7b399ec5367f7e5130c", func := "rampart/rampartlaw10.WalRefused", spec := "walRefused", unfollowed := true, recurses := true, named := ["rampart/sum.halfSteps"], apart := false, laid := [("rampart/sum.halfSteps", laid_rampart_sum_halfSteps)] }
def WalRefusedSaid : Prop := walRefusedRow.holds Tryd.pinned (OpenSpec.ofChange walRefusedSpec)

/-- ITS FALSE NEIGHBOUR: 'it returns false'. Refute it at one input. -/
def walRefusedWrong : ChangeSpec := { name := "walRefused", fn := fun _ => fun
  | [d1, d2] => { results := [.lit (.bool false)], args := [d1, d2] }
  | _ => none }
def WalRefusedWrongFalsely : Prop := walRefusedRow.holds Tryd.pinned (OpenSpec.ofChange walRefusedWrong)

/- THE SECOND FORM. 'bulk': how many values and letters a reading holds, each counted each time it is reached (what is shared counts as often as it is met; a slice's spare places count too). A statement '..UptoSaid' is the law's where the arguments, and the package variables that the reading takes, are together of bulk at most 1048576: NARROWER than '..Said'. Prove '..Said' where nothing that the law and all that it calls make is longer than what came in: it says more and counts as full. Else prove '..UptoSaid'. A law counts once. -/
mutual
def uptoBulk {H : Type} : DataW H → Nat
  | .lit (.string bytes) => bytes.length + 1
  | .lit _ => 1
  | .nil => 1
  | .ptr d => uptoBulk d + 1
  | .slice elems spare => uptoBulkAll elems + uptoBulkAll spare + 1
  | .agg parts => uptoBulkAll parts + 1
  | .iface _ d => uptoBulk d + 1
  | .map entries => uptoBulkEntries entries + 1
  | .held _ => 1
def uptoBulkAll {H : Type} : List (DataW H) → Nat
  | [] => 0
  | d :: r => uptoBulk d + uptoBulkAll r
def uptoBulkEntries {H : Type} : List (Lit × DataW H) → Nat
  | [] => 0
  | x :: r => uptoBulkEntry x + uptoBulkEntries r
def uptoBulkEntry {H : Type} : Lit × DataW H → Nat
  | (.string bytes, d) => bytes.length + uptoBulk d + 1
  | (_, d) => uptoBulk d + 1
 end
def uptoSmall : (H : Type) → List (DataW H) → Bool := fun _ ds => decide (uptoBulkAll ds ≤ 1048576)
def OpenSpec.upto (s : _root_.Go.ChangeSpec) : _root_.Go.OpenSpec := { _root_.Go.OpenSpec.ofChange s with cond := some uptoSmall }

/-- 'rampartlaw10.WalTorn', WHERE WHAT IT READS IS OF BULK AT MOST 1048576: true; the input reads as it did. -/
def walTornUptoRow : OpenClaim := { program := "ytgamhblkgojapaadoor", sum := "afc49dde5dde9b1529aabb9c1b2c6f84421f2db1f764e7b399ec5367f7e5130c", func := "rampart/rampartlaw10.WalTorn", spec := "walTorn", named := ["rampart/sum.halfSteps"], apart := false, laid := [("rampart/sum.halfSteps", laid_rampart_sum_halfSteps)], narrowed := true }
def WalTornUptoSaid : Prop := walTornUptoRow.holds Tryd.pinned (OpenSpec.upto walTornSpec)

/-- 'rampartlaw10.WalMemory', WHERE WHAT IT READS IS OF BULK AT MOST 1048576: true; the input reads as it did. -/
def walMemoryUptoRow : OpenClaim := { program := "ytgamhblkgojapaadoor", sum := "afc49dde5dde9b1529aabb9c1b2c6f84421f2db1f764e7b399ec5367f7e5130c", func := "rampart/rampartlaw10.WalMemory", spec := "walMemory", named := ["rampart/sum.halfSteps"], apart := false, laid := [("rampart/sum.halfSteps", laid_rampart_sum_halfSteps)], narrowed := true }
def WalMemoryUptoSaid : Prop := walMemoryUptoRow.holds Tryd.pinned (OpenSpec.upto walMemorySpec)

/-- 'rampartlaw10.WalKeeps', WHERE WHAT IT READS IS OF BULK AT MOST 1048576: true; the input reads as it did. -/
def walKeepsUptoRow : OpenClaim := { program := "ytgamhblkgojapaadoor", sum := "afc49dde5dde9b1529aabb9c1b2c6f84421f2db1f764e7b399ec5367f7e5130c", func := "rampart/rampartlaw10.WalKeeps", spec := "walKeeps", named := ["rampart/sum.halfSteps"], apart := false, laid := [("rampart/sum.halfSteps", laid_rampart_sum_halfSteps)], narrowed := true }
def WalKeepsUptoSaid : Prop := walKeepsUptoRow.holds Tryd.pinned (OpenSpec.upto walKeepsSpec)

/-- 'rampartlaw10.WalRefused', WHERE WHAT IT READS IS OF BULK AT MOST 1048576: true; the input reads as it did. -/
def walRefusedUptoRow : OpenClaim := { program := "ytgamhblkgojapaadoor", sum := "afc49dde5dde9b1529aabb9c1b2c6f84421f2db1f764e7b399ec5367f7e5130c", func := "rampart/rampartlaw10.WalRefused", spec := "walRefused", unfollowed := true, recurses := true, named := ["rampart/sum.halfSteps"], apart := false, laid := [("rampart/sum.halfSteps", laid_rampart_sum_halfSteps)], narrowed := true }
def WalRefusedUptoSaid : Prop := walRefusedUptoRow.holds Tryd.pinned (OpenSpec.upto walRefusedSpec)

end Rows
end Go.Proofs.YtgamhblkgojapaaDoor
