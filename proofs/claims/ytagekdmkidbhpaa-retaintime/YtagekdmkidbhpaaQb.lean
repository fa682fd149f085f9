/- Regions that draw and only read, their callees laying new blocks alone. -/
import Derived.Test.YtagekdmkidbhpaaOb
import Derived.Lib.QuietBelow
import Derived.BigQuiet
namespace Go.Proofs.Ytagekdmkidbhpaa
open Go.RowKit
set_option linter.unusedVariables false
set_option linter.unusedSimpArgs false
theorem keeps_grownQ (W : World) (d : Nat) (os : Array Obj) : Keeps no W (Sort.grow (redrawn W d) os) := Keeps.of_below (below_regrown W d os)
theorem grown_keepsQ {W X : World} (h : Keeps no W X) : ∃ p : Regrown, X = Sort.grow (redrawn W p.d) p.os := regrown_of_below (h.below (Nat.le_refl _) (fun _ h => h.elim))
theorem call_grown {f : FuncId} {args : Array Value} {W : World} {v : Value} (h : ∀ X, Keeps no W X → Calls Try.prog f args X fun e w' => e = .returned v ∧ Keeps no X w') (d : Nat) (os : Array Obj) :
    Calls Try.prog f args (Sort.grow (redrawn W d) os) fun e w'' => e = .returned v ∧ ∃ p : Regrown, w'' = Sort.grow (redrawn W p.d) p.os :=
  (h _ (keeps_grownQ W d os)).mono fun e w' ⟨he, hk⟩ => ⟨he, grown_keepsQ ((keeps_grownQ W d os).trans hk)⟩
end Go.Proofs.Ytagekdmkidbhpaa
