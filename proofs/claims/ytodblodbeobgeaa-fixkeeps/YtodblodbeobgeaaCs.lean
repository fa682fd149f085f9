/- slices.BinarySearch. -/
import Derived.Test.YtodblodbeobgeaaV0
import Derived.Test.YtodblodbeobgeaaShelf
namespace Go.Proofs.Ytodblodbeobgeaa
open Go.RowKit Go.Sort Orl
set_option linter.unusedVariables false
set_option linter.unusedSimpArgs false

theorem inn_out {xs : List Tx} {s : Tx} (h : s ∉ xs) : inn xs s = false := by rw [← Bool.not_eq_true, inn_iff]; exact h
theorem search_in (xs : List Tx) (s : Tx) (hi : Inc lts xs) :
    decide (Lib.bsGo (fun t => Op.bytesLess ((if t < xs.length then xs.getD t e0 else s) : Tx).toList s.toList) xs.length 0 xs.length < xs.length ∧ (if Lib.bsGo (fun t => Op.bytesLess ((if t < xs.length then xs.getD t e0 else s) : Tx).toList s.toList) xs.length 0 xs.length < xs.length then xs.getD (Lib.bsGo (fun t => Op.bytesLess ((if t < xs.length then xs.getD t e0 else s) : Tx).toList s.toList) xs.length 0 xs.length) e0 else s) = s) = inn xs s := by
  -- the number of those below s
  have key : ∃ k, k ≤ xs.length ∧ (∀ t, t < k → lts (xs.getD t e0) s = true) ∧ (∀ t, k ≤ t → t < xs.length → lts (xs.getD t e0) s = false) := by
    have : ∀ (m : Nat), m ≤ xs.length → ∃ k, k ≤ m ∧ (∀ t, t < k → lts (xs.getD t e0) s = true) ∧ (∀ t, k ≤ t → t < m → lts (xs.getD t e0) s = false) := by
      intro m
      induction m with
      | zero => intro _; exact ⟨0, Nat.le_refl _, fun t h => by omega, fun t _ h => by omega⟩
      | succ m ih =>
        intro hm
        cases e : lts (xs.getD m e0) s
        · obtain ⟨k, hk, h1, h2⟩ := ih (by omega)
          refine ⟨k, by omega, h1, fun t ht htm => ?_⟩
          by_cases h : t = m
          · subst h; exact e
          · exact h2 t ht (by omega)
        · refine ⟨m + 1, Nat.le_refl _, fun t ht => ?_, fun t h1 h2 => by omega⟩
          by_cases h : t = m
          · subst h; exact e
          · exact swoT.trans _ _ _ (inc_getD hi e0 (i := t) (j := m) (by omega) (by omega)) e
    exact this xs.length (Nat.le_refl _)
  obtain ⟨k, hk, h1, h2⟩ := key
  have hb : Lib.bsGo (fun t => Op.bytesLess ((if t < xs.length then xs.getD t e0 else s) : Tx).toList s.toList) xs.length 0 xs.length = k := by
    refine Lib.bsGo_spec _ k (fun t ht => ?_) (fun t ht => ?_) _ _ _ (by omega) (by omega) hk
    · show lts (if t < xs.length then xs.getD t e0 else s) s = true
      rw [if_pos (by omega)]; exact h1 t ht
    · show lts (if t < xs.length then xs.getD t e0 else s) s = false
      split
      · exact h2 t ht (by assumption)
      · exact swoT.irrefl _
  rw [hb]
  by_cases hm : s ∈ xs
  · rw [(inn_iff xs s).2 hm]
    obtain ⟨j, hj, rfl⟩ := List.getElem_of_mem hm
    have hjd : xs[j] = xs.getD j e0 := by simp [hj]
    have : k = j := by
      have a1 : ¬ j < k := fun h => by
        have := h1 j h; rw [← hjd, swoT.irrefl] at this; cases this
      have a2 : ¬ k < j := fun h => by
        have := h2 k (Nat.le_refl _) (by omega)
        rw [hjd, inc_getD hi e0 h hj] at this; cases this
      omega
    subst this
    rw [decide_eq_true_eq, if_pos hj]
    exact ⟨hj, hjd.symm⟩
  · rw [inn_out hm, decide_eq_false_iff_not]
    rintro ⟨h3, h4⟩
    rw [if_pos h3] at h4
    exact hm (by rw [← h4]; exact getD_mem_lt e0 h3)

theorem search_any (w : World) (a : Option Addr) (n c : Nat) (xs : List Tx) (s : Tx) (hn : n = xs.length) (hl : Small xs) (hs : Sl TE w a c xs) (hi : Inc lts xs) :
    Calls Try.prog 46 #[.slice a n c, .string s] w fun e w' => (∃ i : Int, e = .returned (.tuple #[.int .i64 i, .bool (inn xs s)])) ∧ Keeps no w w' := by
  subst hn
  rcases hs.row with e | ⟨b, off, rfl, hc⟩
  · subst e
    have hcon := Any2.slices_BinarySearch_string_empty Try.laysSearch a c s w
    change Calls Try.prog 46 _ _ _ at hcon
    refine hcon.mono ?_
    rintro e w' ⟨rfl, rfl⟩
    exact ⟨⟨0, rfl⟩, Keeps.refl _ _⟩
  · have hcon := Any2.slices_BinarySearch_string Try.laysSearch b off xs.length c (fun t => if t < xs.length then xs.getD t e0 else s) s w (by unfold Small at hl; omega) (fun j hj => by
      obtain ⟨b', off', e, h⟩ := hs.at hj
      cases e
      rw [if_pos hj]
      exact h)
    rw [search_in xs s hi] at hcon
    change Calls Try.prog 46 _ _ _ at hcon
    refine hcon.mono ?_
    rintro e w' ⟨rfl, q, rfl⟩
    exact ⟨⟨_, rfl⟩, (Keeps.refl _ _).drewN _⟩

end Go.Proofs.Ytodblodbeobgeaa
