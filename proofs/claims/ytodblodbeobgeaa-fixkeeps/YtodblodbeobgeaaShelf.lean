/- The library's contract for slices.BinarySearch at this program's numbers (by lay-plain.mjs). -/
import Derived.Shelf.Spec.SearchS
import Derived.Shelf.SlGeneric
import Derived.Ground.Names2Prog
import Derived.Test.YtodblodbeobgeaaRows
namespace Go.Proofs
open Go.Shelf
def Try.laysSearch_ren : Go.Shelf.Ren := ⟨fun | 26 => 46 | 33 => 48 | 34 => 49 | 38 => 50 | n => n, fun | 24 => 30 | 9 => 9 | 3 => 3 | 4 => 4 | 40 => 72 | 0 => 0 | n => n, fun | n => n⟩
theorem Try.laysSearch : Go.Proofs.Lays2.n26 Try.prog Try.laysSearch_ren := {
  mixed := by kernel_rfl
  f26 := Try.func46.trans (congrArg some (by kernel_rfl))
  f33 := Try.func48.trans (congrArg some (by kernel_rfl))
  f34 := Try.func49.trans (congrArg some (by kernel_rfl))
  f38 := Try.func50.trans (congrArg some (by kernel_rfl))
  t0 := Try.underlying0
  a0 := Try.isAgg0
  z0 := Try.sizeOf0
  v0 := Try.zeroValue0
  t3 := Try.underlying3
  a3 := Try.isAgg3
  z3 := Try.sizeOf3
  v3 := Try.zeroValue3
  t4 := Try.underlying4
  a4 := Try.isAgg4
  z4 := Try.sizeOf4
  v4 := Try.zeroValue4
  t9 := Try.underlying9
  a9 := Try.isAgg9
  z9 := Try.sizeOf9
  v9 := Try.zeroValue9
  t24 := Try.underlying30
  a24 := Try.isAgg30
  z24 := Try.sizeOf30
  v24 := Try.zeroValue30
  t40 := Try.underlying72
  a40 := Try.isAgg72
  z40 := Try.sizeOf72
  v40 := Try.zeroValue72 }
end Go.Proofs
