import Derived.Test.YtoijeipoblnliaaGreatDoorFw
import Derived.Test.YtoijeipoblnliaaGreatDoorYI
/- A list's block lies in the heap. -/
namespace Go.Proofs.YtoijeipoblnliaaGreatDoor
open Go.ChangeShapes Go.WideShapes Go.ChangeAt Go.RowKit Go.Deep
set_option linter.constructorNameAsVariable false

set_option maxRecDepth 100000 in
theorem sliceV_lt {w : World} {base : Nat} {a : Option Addr} {n c : Nat} (h : Value.okWide Tryz.prog w .any base 25 (.slice a n c)) : ∀ b, inO a b → b < w.heap.size := by
  simp only [Value.okWide, Tryz.underlying25] at h
  exact slice_lt Tryz.underlying25 h
end Go.Proofs.YtoijeipoblnliaaGreatDoor
