/- The law's value: a key's among pairs. -/
import Derived.Test.YtghnhkhhpeoheaaGreatS1
import Derived.Test.YtghnhkhhpeoheaaGreatM1
namespace Go.Proofs.YtghnhkhhpeoheaaGreat
open Go.RowKit Go.Sort Orl
set_option linter.unusedVariables false
set_option linter.unusedSimpArgs false

/-- what value tells: the first pair's of that key -/
def valI (l : List Pr) (k : Tx) : Tx × Bool := match l.find? fun q => decide (q.1 = k) with
  | some q => (q.2, true)
  | none => (e0, false)
theorem find_first (l : List Pr) (k : Tx) (i : Nat) (hi : i < l.length) (ht : hasP (l.take i) k = false) (he : (l.getD i p0).1 = k) : valI l k = ((l.getD i p0).2, true) := by
  have h1 : (l.take i).find? (fun q => decide (q.1 = k)) = none := by
    rw [List.find?_eq_none]
    intro x hx hc
    have : hasP (l.take i) k = true := List.any_eq_true.2 ⟨x, hx, hc⟩
    rw [ht] at this
    cases this
  have h2 : l = l.take i ++ l.getD i p0 :: l.drop (i + 1) := by
    rw [show l.getD i p0 = l[i] by simp [List.getD_eq_getElem?_getD, hi], ← List.drop_eq_getElem_cons hi, List.take_append_drop]
  have h3 : l.find? (fun q => decide (q.1 = k)) = some (l.getD i p0) := by
    generalize hq : l.getD i p0 = q at h2 he
    rw [h2, List.find?_append, h1]
    simp [he]
  unfold valI
  rw [h3]
theorem find_none (l : List Pr) (k : Tx) (h : hasP l k = false) : valI l k = (e0, false) := by
  have : l.find? (fun q => decide (q.1 = k)) = none := by
    rw [List.find?_eq_none]
    intro x hx hc
    have : hasP l k = true := List.any_eq_true.2 ⟨x, hx, hc⟩
    rw [h] at this
    cases this
  unfold valI
  rw [this]
theorem hasP_take (l : List Pr) (k : Tx) (i : Nat) (hi : i < l.length) (ht : hasP (l.take i) k = false) (he : ¬ (l.getD i p0).1 = k) : hasP (l.take (i + 1)) k = false := by
  rw [take_succ_getD l i p0 hi]
  unfold hasP at ht ⊢
  rw [List.any_append, ht]
  simpa using he
end Go.Proofs.YtghnhkhhpeoheaaGreat
