import Derived.Test.YtjklpcamlppegaaGreatA3
namespace Go.Proofs.YtjklpcamlppegaaGreat
open Go.RowKit Go.Sort Orl
set_option linter.unusedVariables false
set_option linter.unusedSimpArgs false

def isT (l : List Tx) : List Tx := isort lts e0 l
theorem isT_length (l : List Tx) : (isT l).length = l.length := isort_length e0 l
theorem isT_take (l : List Tx) (k : Nat) (h : k < l.length) : isT (l.take (k + 1)) = put lts e0 (isT (l.take k)) (l.getD k e0) := by
  rw [take_succ_getD l k e0 h]; exact isort_snoc e0 _ _

/-- may these be the keys of a request? -/
def someL (a b : List Tx) (has : Bool) : List Tx := a.filter fun x => inn b x == has
def valK (l : List Tx) : Bool := decide (1 ≤ l.length ∧ l.length ≤ 1024) && (l.all fun k => decide (k.size ≤ 65535)) && rising lts (isT l)
theorem valK_size {l : List Tx} (h : valK l = true) : 1 ≤ l.length ∧ l.length ≤ 1024 := by
  unfold valK at h; simp at h; exact h.1.1
theorem valK_long {l : List Tx} {k : Nat} (hk : k < l.length) (h : 65535 < (l.getD k e0).size) : valK l = false := by
  have : (l.all fun k => decide (k.size ≤ 65535)) = false := by
    rw [List.all_eq_false]
    exact ⟨_, getD_mem_lt e0 hk, by simp at h ⊢; exact h⟩
  unfold valK; rw [this]; simp
theorem valK_of {l : List Tx} (h1 : 1 ≤ l.length) (h2 : l.length ≤ 1024) (h3 : ∀ j, j < l.length → (l.getD j e0).size ≤ 65535) : valK l = rising lts (isT l) := by
  have : (l.all fun k => decide (k.size ≤ 65535)) = true := by
    rw [List.all_eq_true]
    intro x hx
    obtain ⟨j, hj, rfl⟩ := List.getElem_of_mem hx
    have := h3 j hj
    simp [hj] at this
    simpa using this
  unfold valK; rw [this]; simp [h1, h2]

end Go.Proofs.YtjklpcamlppegaaGreat
