/- NetMemory: what came in. -/
import Derived.Test.YtdbejihkliafiaaFm
namespace Go.Proofs.Ytdbejihkliafiaa
open Go.ChangeShapes Go.WideShapes Go.ChangeAt Go.RowKit Go.Sort
set_option linter.unusedVariables false
set_option linter.unusedSimpArgs false

section
variable {H : Type} {enc : TypeId × Value → H} {W : World} {held : Bool}
theorem open_bytesR {fuel : Nat} {a : Option Addr} {len cap : Nat} {x : DataW H × List MemPlace}
    (hf : DataW.trod enc Try.prog W 0 (fun _ => true) held fuel 22 [.slice a len cap] = some x) (hw : ∀ n ∈ x.1.weights Try.prog 22, n ≤ reachBytes) :
    ∃ bs : List UInt8, len = bs.length ∧ Sl BE W a cap bs ∧ bs.length ≤ 140737488351232 := by
  obtain ⟨l, h1, h2, h3, h4⟩ := open_list BE okB 0 (fun _ => True) mc5 mb5 (fun fuel cs x h hw => by
    obtain ⟨c, e⟩ := one_byte fuel cs x h
    exact ⟨c, e, trivial⟩) hf hw
  have hc : l.length ≤ cap := h2.cap
  have h5 : cap * 1 ≤ reachBytes := h4
  rw [reach_eq] at h5
  exact ⟨l, h1.symm, h2, by omega⟩
end
end Go.Proofs.Ytdbejihkliafiaa
