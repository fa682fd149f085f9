import Derived.Test.YtoijeipoblnliaaGreatDoorFw
import Derived.Test.YtoijeipoblnliaaGreatDoorYH
/- The argument []int. -/
namespace Go.Proofs.YtoijeipoblnliaaGreatDoor
open Go.ChangeShapes Go.WideShapes Go.ChangeAt Go.RowKit Go.Deep
set_option linter.unusedVariables false
set_option linter.unusedSimpArgs false

theorem mcZ : Tryz.prog.cellsOf 3 = 1 := by kernel_rfl
theorem mbZ : Tryz.prog.bytesOf 3 = 8 := by kernel_rfl
section
variable {H : Type} {enc : TypeId × Value → H} {W : World} {held : Bool}
theorem one_z (fuel : Nat) (cs : List Value) (x : DataW H × List MemPlace) (h : DataW.trod enc Tryz.prog W 0 (fun _ => true) held fuel 3 cs = some x) : ∃ z : Int, cs = IZ.enc z ∧ I64 z := by
  obtain ⟨z, e, _, w⟩ := DataW.trod_int (k := .i64) Tryz.underlying3 h
  exact ⟨z, e, i64_of w⟩
theorem open_zs {fuel : Nat} {a : Option Addr} {len cap : Nat} {x : DataW H × List MemPlace}
    (hf : DataW.trod enc Tryz.prog W 0 (fun _ => true) held fuel 68 [.slice a len cap] = some x) (hw : ∀ n ∈ x.1.weights Tryz.prog 68, n ≤ reachBytes) :
    ∃ l : List Int, l.length = len ∧ Sl IZ W a cap l ∧ (∀ x ∈ l, I64 x) ∧ cap * 8 ≤ reachBytes :=
  open_list IZ okZ 0 I64 mcZ mbZ (fun fuel cs x h hw => one_z fuel cs x h) hf hw
end
end Go.Proofs.YtoijeipoblnliaaGreatDoor
