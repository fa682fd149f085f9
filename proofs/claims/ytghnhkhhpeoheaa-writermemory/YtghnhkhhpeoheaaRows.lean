/-
  No cell of these rows narrows 'for every input' (looked for: loops, veiled, ifaces, maps, wideKeys, modest, calm, conditions, laid).
  DERIVED. THE GIVEN ROWS OF THIS SEAT. 4 by the template 'for every input the law returns true; each argument reads behind the call as it read before'; 0 by the template 'total and deterministic' (their statements: YtghnhkhhpeoheaaTotals.lean).
  GIVEN WITH THE SEED: the statements are not yours to turn. If you find one false, say at which input.
  Laid BY PROGRAM, IN A SANDBOX (cutbox-rows.mjs): the forced cells as the released guide's own fill.sh prints them over the translation ca6b4b402ee44906… (all of the seat's roots in one cut). By AI agents, Wed Nov 11 2026. No macro, syntax, notation, axiom, sorry.
-/
import Derived.Test.YtghnhkhhpeoheaaChecked
import GoSem.Claim
import GoSem.ClaimJoined
import GoSem.ClaimMapViews
import Derived.JoinedTies
import Derived.KernelRfl
namespace Go.Proofs.Ytghnhkhhpeoheaa
/- THE CELL 'sum', in the pinned program and in every row, IS THE sha256 OF THE DUMP (.gsa) THAT YtghnhkhhpeoheaaProg.lean LOADS. Nothing in Lean hashes anything: it is a label: what it is worth is what the hold of that sum in a sandbox is worth. -/
noncomputable def Try.pinned : Pinned := { name := "ytghnhkhhpeoheaa", sum := "ca6b4b402ee44906f5832bfe0ff4eb1ba2d4053ce3bb8cdf86fba75026d30295", checked := Try.checked }
namespace Rows
def none {H : Type} : Left H := { results := [], args := [] }

/-- 'rampartlaw18.WriterGives': WHATEVER THE INPUT: true; the input reads as it did. -/
def writerGivesSpec : ChangeSpec := { name := "writerGives", fn := fun _ => fun
  | [d1, d2, d3, d4] => { results := [.lit (.bool true)], args := [d1, d2, d3, d4] }
  | _ => none }
def writerGivesRow : OpenClaim := { program := "ytghnhkhhpeoheaa", sum := "ca6b4b402ee44906f5832bfe0ff4eb1ba2d4053ce3bb8cdf86fba75026d30295", func := "rampart/rampartlaw18.WriterGives", spec := "writerGives", inPlace := ["internal/bytealg.abigen_runtime_cmpstring"], unfollowed := true, recurses := true, apart := false }
def WriterGivesSaid : Prop := writerGivesRow.holds Try.pinned (OpenSpec.ofChange writerGivesSpec)

/-- ITS FALSE NEIGHBOUR: 'it returns false'. Refute it at one input. -/
def writerGivesWrong : ChangeSpec := { name := "writerGives", fn := fun _ => fun
  | [d1, d2, d3, d4] => { results := [.lit (.bool false)], args := [d1, d2, d3, d4] }
  | _ => none }
def WriterGivesWrongFalsely : Prop := writerGivesRow.holds Try.pinned (OpenSpec.ofChange writerGivesWrong)

/-- 'rampartlaw18.WriterShares': WHATEVER THE INPUT: true; the input reads as it did. -/
def writerSharesSpec : ChangeSpec := { name := "writerShares", fn := fun _ => fun
  | [d1, d2, d3, d4] => { results := [.lit (.bool true)], args := [d1, d2, d3, d4] }
  | _ => none }
def writerSharesRow : OpenClaim := { program := "ytghnhkhhpeoheaa", sum := "ca6b4b402ee44906f5832bfe0ff4eb1ba2d4053ce3bb8cdf86fba75026d30295", func := "rampart/rampartlaw18.WriterShares", spec := "writerShares", inPlace := ["internal/bytealg.abigen_runtime_cmpstring"], unfollowed := true, recurses := true, apart := false }
def WriterSharesSaid : Prop := writerSharesRow.holds Try.pinned (OpenSpec.ofChange writerSharesSpec)

/-- ITS FALSE NEIGHBOUR: 'it returns false'. Refute it at one input. -/
def writerSharesWrong : ChangeSpec := { name := "writerShares", fn := fun _ => fun
  | [d1, d2, d3, d4] => { results := [.lit (.bool false)], args := [d1, d2, d3, d4] }
  | _ => none }
def WriterSharesWrongFalsely : Prop := writerSharesRow.holds Try.pinned (OpenSpec.ofChange writerSharesWrong)

/-- 'rampartlaw18.WriterAnyOrder': WHATEVER THE INPUT: true; the input reads as it did. -/
def writerAnyOrderSpec : ChangeSpec := { name := "writerAnyOrder", fn := fun _ => fun
  | [d1, d2, d3, d4, d5] => { results := [.lit (.bool true)], args := [d1, d2, d3, d4, d5] }
  | _ => none }
def writerAnyOrderRow : OpenClaim := { program := "ytghnhkhhpeoheaa", sum := "ca6b4b402ee44906f5832bfe0ff4eb1ba2d4053ce3bb8cdf86fba75026d30295", func := "rampart/rampartlaw18.WriterAnyOrder", spec := "writerAnyOrder", inPlace := ["internal/bytealg.abigen_runtime_cmpstring"], unfollowed := true, recurses := true, apart := false }
def WriterAnyOrderSaid : Prop := writerAnyOrderRow.holds Try.pinned (OpenSpec.ofChange writerAnyOrderSpec)

/-- ITS FALSE NEIGHBOUR: 'it returns false'. Refute it at one input. -/
def writerAnyOrderWrong : ChangeSpec := { name := "writerAnyOrder", fn := fun _ => fun
  | [d1, d2, d3, d4, d5] => { results := [.lit (.bool false)], args := [d1, d2, d3, d4, d5] }
  | _ => none }
def WriterAnyOrderWrongFalsely : Prop := writerAnyOrderRow.holds Try.pinned (OpenSpec.ofChange writerAnyOrderWrong)

/-- 'rampartlaw18.WriterMemory': WHATEVER THE INPUT: true; the input reads as it did. -/
def writerMemorySpec : ChangeSpec := { name := "writerMemory", fn := fun _ => fun
  | [d1, d2, d3] => { results := [.lit (.bool true)], args := [d1, d2, d3] }
  | _ => none }
def writerMemoryRow : OpenClaim := { program := "ytghnhkhhpeoheaa", sum := "ca6b4b402ee44906f5832bfe0ff4eb1ba2d4053ce3bb8cdf86fba75026d30295", func := "rampart/rampartlaw18.WriterMemory", spec := "writerMemory", inPlace := ["internal/bytealg.abigen_runtime_cmpstring"], unfollowed := true, recurses := true, apart := false }
def WriterMemorySaid : Prop := writerMemoryRow.holds Try.pinned (OpenSpec.ofChange writerMemorySpec)

/-- ITS FALSE NEIGHBOUR: 'it returns false'. Refute it at one input. -/
def writerMemoryWrong : ChangeSpec := { name := "writerMemory", fn := fun _ => fun
  | [d1, d2, d3] => { results := [.lit (.bool false)], args := [d1, d2, d3] }
  | _ => none }
def WriterMemoryWrongFalsely : Prop := writerMemoryRow.holds Try.pinned (OpenSpec.ofChange writerMemoryWrong)

/- THE SECOND FORM. 'bulk': how many values and letters a reading holds, each counted each time it is reached (what is shared counts as often as it is met; a slice's spare places count too). A statement '..UptoSaid' is the law's where the arguments, and the package variables that the reading takes, are together of bulk at most 1048576: NARROWER than '..Said'. Prove '..Said' where nothing that the law and all that it calls make is longer than what came in: it says more and counts as full. Else prove '..UptoSaid'. A law counts once. -/
mutual
def uptoBulk {H : Type} : DataW H → Nat
  | .lit (.string bytes) => bytes.length + 1
  | .lit _ => 1
  | .nil => 1
  | .ptr d => uptoBulk d + 1
  | .slice elems spare => uptoBulkAll elems + uptoBulkAll spare + 1
  | .agg parts => uptoBulkAll parts + 1
  | .iface _ d => uptoBulk d + 1
  | .map entries => uptoBulkEntries entries + 1
  | .held _ => 1
def uptoBulkAll {H : Type} : List (DataW H) → Nat
  | [] => 0
  | d :: r => uptoBulk d + uptoBulkAll r
def uptoBulkEntries {H : Type} : List (Lit × DataW H) → Nat
  | [] => 0
  | x :: r => uptoBulkEntry x + uptoBulkEntries r
def uptoBulkEntry {H : Type} : Lit × DataW H → Nat
  | (.string bytes, d) => bytes.length + uptoBulk d + 1
  | (_, d) => uptoBulk d + 1
 end
def uptoSmall : (H : Type) → List (DataW H) → Bool := fun _ ds => decide (uptoBulkAll ds ≤ 1048576)
def OpenSpec.upto (s : _root_.Go.ChangeSpec) : _root_.Go.OpenSpec := { _root_.Go.OpenSpec.ofChange s with cond := some uptoSmall }

/-- 'rampartlaw18.WriterGives', WHERE WHAT IT READS IS OF BULK AT MOST 1048576: true; the input reads as it did. -/
def writerGivesUptoRow : OpenClaim := { program := "ytghnhkhhpeoheaa", sum := "ca6b4b402ee44906f5832bfe0ff4eb1ba2d4053ce3bb8cdf86fba75026d30295", func := "rampart/rampartlaw18.WriterGives", spec := "writerGives", inPlace := ["internal/bytealg.abigen_runtime_cmpstring"], unfollowed := true, recurses := true, apart := false, narrowed := true }
def WriterGivesUptoSaid : Prop := writerGivesUptoRow.holds Try.pinned (OpenSpec.upto writerGivesSpec)

/-- 'rampartlaw18.WriterShares', WHERE WHAT IT READS IS OF BULK AT MOST 1048576: true; the input reads as it did. -/
def writerSharesUptoRow : OpenClaim := { program := "ytghnhkhhpeoheaa", sum := "ca6b4b402ee44906f5832bfe0ff4eb1ba2d4053ce3bb8cdf86fba75026d30295", func := "rampart/rampartlaw18.WriterShares", spec := "writerShares", inPlace := ["internal/bytealg.abigen_runtime_cmpstring"], unfollowed := true, recurses := true, apart := false, narrowed := true }
def WriterSharesUptoSaid : Prop := writerSharesUptoRow.holds Try.pinned (OpenSpec.upto writerSharesSpec)

/-- 'rampartlaw18.WriterAnyOrder', WHERE WHAT IT READS IS OF BULK AT MOST 1048576: true; the input reads as it did. -/
def writerAnyOrderUptoRow : OpenClaim := { program := "ytghnhkhhpeoheaa", sum := "ca6b4b402ee44906f5832bfe0ff4eb1ba2d4053ce3bb8cdf86fba75026d30295", func := "rampart/rampartlaw18.WriterAnyOrder", spec := "writerAnyOrder", inPlace := ["internal/bytealg.abigen_runtime_cmpstring"], unfollowed := true, recurses := true, apart := false, narrowed := true }
def WriterAnyOrderUptoSaid : Prop := writerAnyOrderUptoRow.holds Try.pinned (OpenSpec.upto writerAnyOrderSpec)

/-- 'rampartlaw18.WriterMemory', WHERE WHAT IT READS IS OF BULK AT MOST 1048576: true; the input reads as it did. -/
def writerMemoryUptoRow : OpenClaim := { program := "ytghnhkhhpeoheaa", sum := "ca6b4b402ee44906f5832bfe0ff4eb1ba2d4053ce3bb8cdf86fba75026d30295", func := "rampart/rampartlaw18.WriterMemory", spec := "writerMemory", inPlace := ["internal/bytealg.abigen_runtime_cmpstring"], unfollowed := true, recurses := true, apart := false, narrowed := true }
def WriterMemoryUptoSaid : Prop := writerMemoryUptoRow.holds Try.pinned (OpenSpec.upto writerMemorySpec)

end Rows
end Go.Proofs.Ytghnhkhhpeoheaa
