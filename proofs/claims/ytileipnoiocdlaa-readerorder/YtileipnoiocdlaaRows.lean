/-
  No cell of these rows narrows 'for every input' (looked for: loops, veiled, ifaces, maps, wideKeys, modest, calm, conditions, laid).
  DERIVED. THE GIVEN ROWS OF THIS SEAT. 3 by the template 'for every input the law returns true; each argument reads behind the call as it read before'; 0 by the template 'total and deterministic' (their statements: YtileipnoiocdlaaTotals.lean).
  GIVEN WITH THE SEED: the statements are not yours to turn. If you find one false, say at which input.
  Laid BY PROGRAM, IN A SANDBOX (cutbox-rows.mjs): the forced cells as the released guide's own fill.sh prints them over the translation 3858121cd005c123… (all of the seat's roots in one cut). By AI agents, Wed Nov 11 2026. No macro, syntax, notation, axiom, sorry.
-/
import Derived.Test.YtileipnoiocdlaaChecked
import GoSem.Claim
import GoSem.ClaimJoined
import GoSem.ClaimMapViews
import Derived.JoinedTies
import Derived.KernelRfl
namespace Go.Proofs.Ytileipnoiocdlaa
/- THE CELL 'sum', in the pinned program and in every row, IS THE sha256 OF THE DUMP (.gsa) THAT YtileipnoiocdlaaProg.lean LOADS. Nothing in Lean hashes anything: it is a label: what it is worth is what the hold of that sum in a sandbox is worth. -/
noncomputable def Try.pinned : Pinned := { name := "ytileipnoiocdlaa", sum := "3858121cd005c1238e73a88f504a749e8d0173389b3f07e6735203300189a8c5", checked := Try.checked }
namespace Rows
def none {H : Type} : Left H := { results := [], args := [] }

/-- 'rampartlaw19.ReaderMemory': WHATEVER THE INPUT: true; the input reads as it did. -/
def readerMemorySpec : ChangeSpec := { name := "readerMemory", fn := fun _ => fun
  | [d] => { results := [.lit (.bool true)], args := [d] }
  | _ => none }
def readerMemoryRow : OpenClaim := { program := "ytileipnoiocdlaa", sum := "3858121cd005c1238e73a88f504a749e8d0173389b3f07e6735203300189a8c5", func := "rampart/rampartlaw19.ReaderMemory", spec := "readerMemory", unfollowed := true, recurses := true, plainKeys := false, apart := false }
def ReaderMemorySaid : Prop := readerMemoryRow.holds Try.pinned (OpenSpec.ofChange readerMemorySpec)

/-- ITS FALSE NEIGHBOUR: 'it returns false'. Refute it at one input. -/
def readerMemoryWrong : ChangeSpec := { name := "readerMemory", fn := fun _ => fun
  | [d] => { results := [.lit (.bool false)], args := [d] }
  | _ => none }
def ReaderMemoryWrongFalsely : Prop := readerMemoryRow.holds Try.pinned (OpenSpec.ofChange readerMemoryWrong)

/-- 'rampartlaw19.ReaderGives': WHATEVER THE INPUT: true; the input reads as it did. -/
def readerGivesSpec : ChangeSpec := { name := "readerGives", fn := fun _ => fun
  | [d1, d2, d3] => { results := [.lit (.bool true)], args := [d1, d2, d3] }
  | _ => none }
def readerGivesRow : OpenClaim := { program := "ytileipnoiocdlaa", sum := "3858121cd005c1238e73a88f504a749e8d0173389b3f07e6735203300189a8c5", func := "rampart/rampartlaw19.ReaderGives", spec := "readerGives", unfollowed := true, recurses := true, plainKeys := false, apart := false }
def ReaderGivesSaid : Prop := readerGivesRow.holds Try.pinned (OpenSpec.ofChange readerGivesSpec)

/-- ITS FALSE NEIGHBOUR: 'it returns false'. Refute it at one input. -/
def readerGivesWrong : ChangeSpec := { name := "readerGives", fn := fun _ => fun
  | [d1, d2, d3] => { results := [.lit (.bool false)], args := [d1, d2, d3] }
  | _ => none }
def ReaderGivesWrongFalsely : Prop := readerGivesRow.holds Try.pinned (OpenSpec.ofChange readerGivesWrong)

/-- 'rampartlaw19.ReaderOrder': WHATEVER THE INPUT: true; the input reads as it did. -/
def readerOrderSpec : ChangeSpec := { name := "readerOrder", fn := fun _ => fun
  | [d1, d2, d3, d4, d5] => { results := [.lit (.bool true)], args := [d1, d2, d3, d4, d5] }
  | _ => none }
def readerOrderRow : OpenClaim := { program := "ytileipnoiocdlaa", sum := "3858121cd005c1238e73a88f504a749e8d0173389b3f07e6735203300189a8c5", func := "rampart/rampartlaw19.ReaderOrder", spec := "readerOrder", unfollowed := true, recurses := true, plainKeys := false, apart := false }
def ReaderOrderSaid : Prop := readerOrderRow.holds Try.pinned (OpenSpec.ofChange readerOrderSpec)

/-- ITS FALSE NEIGHBOUR: 'it returns false'. Refute it at one input. -/
def readerOrderWrong : ChangeSpec := { name := "readerOrder", fn := fun _ => fun
  | [d1, d2, d3, d4, d5] => { results := [.lit (.bool false)], args := [d1, d2, d3, d4, d5] }
  | _ => none }
def ReaderOrderWrongFalsely : Prop := readerOrderRow.holds Try.pinned (OpenSpec.ofChange readerOrderWrong)

/- THE SECOND FORM. 'bulk': how many values and letters a reading holds, each counted each time it is reached (what is shared counts as often as it is met; a slice's spare places count too). A statement '..UptoSaid' is the law's where the arguments, and the package variables that the reading takes, are together of bulk at most 1048576: NARROWER than '..Said'. Prove '..Said' where nothing that the law and all that it calls make is longer than what came in: it says more and counts as full. Else prove '..UptoSaid'. A law counts once. -/
mutual
def uptoBulk {H : Type} : DataW H → Nat
  | .lit (.string bytes) => bytes.length + 1
  | .lit _ => 1
  | .nil => 1
  | .ptr d => uptoBulk d + 1
  | .slice elems spare => uptoBulkAll elems + uptoBulkAll spare + 1
  | .agg parts => uptoBulkAll parts + 1
  | .iface _ d => uptoBulk d + 1
  | .map entries => uptoBulkEntries entries + 1
  | .held _ => 1
def uptoBulkAll {H : Type} : List (DataW H) → Nat
  | [] => 0
  | d :: r => uptoBulk d + uptoBulkAll r
def uptoBulkEntries {H : Type} : List (Lit × DataW H) → Nat
  | [] => 0
  | x :: r => uptoBulkEntry x + uptoBulkEntries r
def uptoBulkEntry {H : Type} : Lit × DataW H → Nat
  | (.string bytes, d) => bytes.length + uptoBulk d + 1
  | (_, d) => uptoBulk d + 1
 end
def uptoSmall : (H : Type) → List (DataW H) → Bool := fun _ ds => decide (uptoBulkAll ds ≤ 1048576)
def OpenSpec.upto (s : _root_.Go.ChangeSpec) : _root_.Go.OpenSpec := { _root_.Go.OpenSpec.ofChange s with cond := some uptoSmall }

/-- 'rampartlaw19.ReaderMemory', WHERE WHAT IT READS IS OF BULK AT MOST 1048576: true; the input reads as it did. -/
def readerMemoryUptoRow : OpenClaim := { program := "ytileipnoiocdlaa", sum := "3858121cd005c1238e73a88f504a749e8d0173389b3f07e6735203300189a8c5", func := "rampart/rampartlaw19.ReaderMemory", spec := "readerMemory", unfollowed := true, recurses := true, plainKeys := false, apart := false, narrowed := true }
def ReaderMemoryUptoSaid : Prop := readerMemoryUptoRow.holds Try.pinned (OpenSpec.upto readerMemorySpec)

/-- 'rampartlaw19.ReaderGives', WHERE WHAT IT READS IS OF BULK AT MOST 1048576: true; the input reads as it did. -/
def readerGivesUptoRow : OpenClaim := { program := "ytileipnoiocdlaa", sum := "3858121cd005c1238e73a88f504a749e8d0173389b3f07e6735203300189a8c5", func := "rampart/rampartlaw19.ReaderGives", spec := "readerGives", unfollowed := true, recurses := true, plainKeys := false, apart := false, narrowed := true }
def ReaderGivesUptoSaid : Prop := readerGivesUptoRow.holds Try.pinned (OpenSpec.upto readerGivesSpec)

/-- 'rampartlaw19.ReaderOrder', WHERE WHAT IT READS IS OF BULK AT MOST 1048576: true; the input reads as it did. -/
def readerOrderUptoRow : OpenClaim := { program := "ytileipnoiocdlaa", sum := "3858121cd005c1238e73a88f504a749e8d0173389b3f07e6735203300189a8c5", func := "rampart/rampartlaw19.ReaderOrder", spec := "readerOrder", unfollowed := true, recurses := true, plainKeys := false, apart := false, narrowed := true }
def ReaderOrderUptoSaid : Prop := readerOrderUptoRow.holds Try.pinned (OpenSpec.upto readerOrderSpec)

end Rows
end Go.Proofs.Ytileipnoiocdlaa
