/- Numbers that came in. -/
import Derived.Test.YtkoaiibjahlnmaaGreatFa
import Derived.Test.YtkoaiibjahlnmaaGreatLO
namespace Go.Proofs.YtkoaiibjahlnmaaGreat
open Go.ChangeShapes Go.WideShapes Go.ChangeAt Go.RowKit Go.Deep
set_option linter.unusedVariables false

theorem mcN : Tryz.prog.cellsOf NE.e = NE.k := by kernel_rfl
theorem mbN : Tryz.prog.bytesOf NE.e = NE.nb := by kernel_rfl
theorem one_int {H : Type} {enc : TypeId × Value → H} {W : World} {held : Bool} (fuel : Nat) (cs : List Value) (x : DataW H × List MemPlace) (h : DataW.trod enc Tryz.prog W 0 (fun _ => true) held fuel NE.e cs = some x) (hw : ∀ n ∈ x.1.weights Tryz.prog NE.e, n ≤ reachBytes) :
    ∃ z : Int, cs = NE.enc z ∧ I64 z := by
  obtain ⟨z, e0, _, w0⟩ := DataW.trod_int (k := .i64) Tryz.underlying3 h
  exact ⟨z, e0, bounds_i64 w0⟩
end Go.Proofs.YtkoaiibjahlnmaaGreat
