import Derived.Test.YtagekdmkidbhpaaOr
/- A heap of numbers in a list. No program here. -/
namespace Go.Proofs.Ytagekdmkidbhpaa
set_option linter.unusedVariables false
set_option linter.unusedSimpArgs false
namespace Hp

def swp (l : List Nat) (i j : Nat) : List Nat := (l.set i (l.getD j 0)).set j (l.getD i 0)
theorem swp_length (l : List Nat) (i j : Nat) : (swp l i j).length = l.length := by simp [swp]
theorem swp_at (l : List Nat) {i j : Nat} (hi : i < l.length) (hj : j < l.length) (k : Nat) : (swp l i j).getD k 0 = if k = j then l.getD i 0 else if k = i then l.getD j 0 else l.getD k 0 := by
  unfold swp
  by_cases h1 : k = j
  · subst h1; simp [hj, List.getD_eq_getElem?_getD]
  · by_cases h2 : k = i
    · subst h2
      rw [if_neg h1, if_pos rfl]
      have : j ≠ k := fun e => h1 e.symm
      simp [List.getD_eq_getElem?_getD, List.getElem?_set, this, hi]
    · rw [if_neg h1, if_neg h2]
      have e1 : j ≠ k := fun e => h1 e.symm
      have e2 : i ≠ k := fun e => h2 e.symm
      simp [List.getD_eq_getElem?_getD, List.getElem?_set, e1, e2]
theorem swp_perm (l : List Nat) {i j : Nat} (hi : i < l.length) (hj : j < l.length) : (swp l i j).Perm l := by
  have h := List.set_set_perm hi hj
  have e1 : l.getD j 0 = l[j] := by simp [List.getD_eq_getElem?_getD, hj]
  have e2 : l.getD i 0 = l[i] := by simp [List.getD_eq_getElem?_getD, hi]
  unfold swp
  rw [e1, e2]
  exact h

/-- a heap in the first n -/
def HeapN (l : List Nat) (n : Nat) : Prop := ∀ k, 0 < k → k < n → l.getD ((k - 1) / 2) 0 ≤ l.getD k 0
def Heap (l : List Nat) : Prop := HeapN l l.length
/-- but for the place j, which may be too small -/
structure HUp (l : List Nat) (j : Nat) : Prop where
  a : ∀ k, 0 < k → k < l.length → k ≠ j → l.getD ((k - 1) / 2) 0 ≤ l.getD k 0
  b : ∀ k, 0 < k → k < l.length → (k - 1) / 2 = j → 0 < j → l.getD ((j - 1) / 2) 0 ≤ l.getD k 0
theorem getD_snoc (l : List Nat) (x k : Nat) (h : k < l.length) : (l ++ [x]).getD k 0 = l.getD k 0 := by
  simp [List.getD_eq_getElem?_getD, List.getElem?_append_left h]
theorem hup_push {l : List Nat} (h : Heap l) (x : Nat) : HUp (l ++ [x]) l.length := by
  constructor
  · intro k h1 h2 h3
    rw [List.length_append] at h2
    simp at h2
    have hk : k < l.length := by omega
    rw [getD_snoc _ _ _ hk, getD_snoc _ _ _ (by omega)]
    exact h k h1 hk
  · intro k h1 h2 h3 h4
    rw [List.length_append] at h2
    simp at h2
    omega
theorem hup_done {l : List Nat} {j : Nat} (h : HUp l j) (hj : j = 0 ∨ l.getD ((j - 1) / 2) 0 ≤ l.getD j 0) : Heap l := by
  intro k h1 h2
  by_cases e : k = j
  · subst e
    rcases hj with e | e
    · omega
    · exact e
  · exact h.a k h1 h2 e
theorem hup_step {l : List Nat} {j : Nat} (h : HUp l j) (hj : 0 < j) (hl : j < l.length) (hlt : l.getD j 0 < l.getD ((j - 1) / 2) 0) : HUp (swp l ((j - 1) / 2) j) ((j - 1) / 2) := by
  have hi : (j - 1) / 2 < l.length := by omega
  have hij : (j - 1) / 2 < j := by omega
  constructor
  · intro k h1 h2 h3
    rw [swp_length] at h2
    rw [swp_at l hi hl, swp_at l hi hl]
    by_cases e1 : k = j
    · subst e1
      rw [if_neg (by omega), if_pos rfl, if_pos rfl]
      omega
    · rw [if_neg e1, if_neg h3]
      by_cases e2 : (k - 1) / 2 = j
      · rw [if_pos e2]
        exact h.b k h1 h2 e2 hj
      · rw [if_neg e2]
        by_cases e3 : (k - 1) / 2 = (j - 1) / 2
        · rw [if_pos e3]
          have := h.a k h1 h2 e1
          rw [e3] at this
          omega
        · rw [if_neg e3]
          exact h.a k h1 h2 e1
  · intro k h1 h2 h3 h4
    rw [swp_length] at h2
    rw [swp_at l hi hl, swp_at l hi hl]
    have hpp := h.a ((j - 1) / 2) h4 hi (by omega)
    rw [if_neg (by omega), if_neg (by omega)]
    by_cases e1 : k = j
    · subst e1
      rw [if_pos rfl]
      exact hpp
    · rw [if_neg e1]
      have hk := h.a k h1 h2 e1
      rw [h3] at hk
      rw [if_neg (by omega)]
      omega

/-- but for the place i, which may be too great; the first n -/
structure HDn (l : List Nat) (i n : Nat) : Prop where
  a : ∀ k, 0 < k → k < n → (k - 1) / 2 ≠ i → l.getD ((k - 1) / 2) 0 ≤ l.getD k 0
  b : ∀ k, 0 < k → k < n → (k - 1) / 2 = i → 0 < i → l.getD ((i - 1) / 2) 0 ≤ l.getD k 0
theorem hdn_start {l : List Nat} {n : Nat} (h : Heap l) (hn : n + 1 = l.length) : HDn (swp l 0 n) 0 n := by
  constructor
  · intro k h1 h2 h3
    rw [swp_at l (by omega) (by omega), swp_at l (by omega) (by omega)]
    rw [if_neg (by omega), if_neg h3, if_neg (by omega), if_neg (by omega)]
    exact h k h1 (by omega)
  · intro k h1 h2 h3 h4
    omega
theorem hdn_leaf {l : List Nat} {i n : Nat} (h : HDn l i n) (hl : n ≤ 2 * i + 1) : HeapN l n := by
  intro k h1 h2
  exact h.a k h1 h2 (by omega)
/-- j: the lesser child of i -/
def Less2 (l : List Nat) (i j n : Nat) : Prop := j < n ∧ (j = 2 * i + 1 ∨ j = 2 * i + 2) ∧ ∀ k, k < n → (k = 2 * i + 1 ∨ k = 2 * i + 2) → l.getD j 0 ≤ l.getD k 0
theorem hdn_done {l : List Nat} {i j n : Nat} (h : HDn l i n) (hj : Less2 l i j n) (hge : l.getD i 0 ≤ l.getD j 0) : HeapN l n := by
  intro k h1 h2
  by_cases e : (k - 1) / 2 = i
  · rw [e]
    exact Nat.le_trans hge (hj.2.2 k h2 (by omega))
  · exact h.a k h1 h2 e
theorem hdn_step {l : List Nat} {i j n : Nat} (h : HDn l i n) (hn : n ≤ l.length) (hj : Less2 l i j n) (hlt : l.getD j 0 < l.getD i 0) : HDn (swp l i j) j n := by
  obtain ⟨h1, h2, h3⟩ := hj
  have hjl : j < l.length := by omega
  have hil : i < l.length := by omega
  constructor
  · intro k k1 k2 k3
    rw [swp_at l hil hjl, swp_at l hil hjl, if_neg k3]
    by_cases e1 : (k - 1) / 2 = i
    · rw [if_pos e1]
      by_cases e2 : k = j
      · rw [if_pos e2]; omega
      · rw [if_neg e2, if_neg (by omega)]
        exact h3 k k2 (by omega)
    · rw [if_neg e1]
      have hk := h.a k k1 k2 e1
      rw [if_neg (by omega)]
      by_cases e3 : k = i
      · subst e3
        rw [if_pos rfl]
        exact h.b j (by omega) h1 (by omega) k1
      · rw [if_neg e3]; exact hk
  · intro k k1 k2 k3 k4
    have e : (j - 1) / 2 = i := by omega
    rw [e, swp_at l hil hjl, swp_at l hil hjl, if_neg (by omega), if_pos rfl, if_neg (by omega), if_neg (by omega)]
    have := h.a k k1 k2 (by omega)
    rw [k3] at this
    exact this
/-- the first is the least -/
theorem heap_min {l : List Nat} (h : Heap l) : ∀ k, k < l.length → l.getD 0 0 ≤ l.getD k 0 := by
  intro k
  induction k using Nat.strongRecOn with
  | _ k ih =>
    intro hk
    by_cases e : k = 0
    · subst e; exact Nat.le_refl _
    · exact Nat.le_trans (ih ((k - 1) / 2) (by omega) (by omega)) (h k (by omega) hk)
theorem heap_min_mem {l : List Nat} (h : Heap l) {x : Nat} (hx : x ∈ l) : l.getD 0 0 ≤ x := by
  obtain ⟨k, hk, rfl⟩ := List.getElem_of_mem hx
  have := heap_min h k hk
  rwa [show l.getD k 0 = l[k] by simp [List.getD_eq_getElem?_getD, hk]] at this
theorem heap_take {l : List Nat} {n : Nat} (h : HeapN l n) (hn : n ≤ l.length) : Heap (l.take n) := by
  intro k h1 h2
  have h2' : k < n := by simp at h2; omega
  have e : ∀ j, j < n → (l.take n).getD j 0 = l.getD j 0 := fun j hj => by simp [List.getD_eq_getElem?_getD, List.getElem?_take, hj]
  rw [e _ h2', e _ (by omega)]
  exact h k h1 h2'
theorem heap_nil : Heap [] := fun k _ h => by simp at h
end Hp
end Go.Proofs.Ytagekdmkidbhpaa
