/- One element of a row written over, whole or one cell of it; a whole block written over. -/
import Derived.Test.YtjkljljmjjnneaaGreatDoorN0
namespace Go.Proofs.YtjkljljmjjnneaaGreatDoor
open Go.RowKit Go.Sort Orl
set_option linter.unusedVariables false
set_option linter.unusedSimpArgs false

theorem getD_at {α : Type} {l : List α} {j : Nat} (h : j < l.length) (d : α) : l.getD j d = l[j] := by simp [List.getD, h]
theorem blk_setCells {g : Nat} {t : TypeId} {fz : Nat × Nat} : ∀ (vs : List Value) (o : Nat) {w : World} {cur : Array Value}, w.heap[g]? = some (.cells cur t fz) → ∃ cur', (w.setCells g o vs).heap[g]? = some (.cells cur' t fz) ∧ cur'.size = cur.size ∧ ∀ i, cur'[i]? = if o ≤ i ∧ i < o + vs.length ∧ i < cur.size then vs[i - o]? else cur[i]?
  | [], o, w, cur, h => ⟨cur, h, rfl, fun i => by rw [if_neg (by simp; omega)]⟩
  | v :: r, o, w, cur, h => by
    obtain ⟨cur', h1, h2, h3⟩ := blk_setCells r (o + 1) (blk_set h o v)
    refine ⟨cur', h1, by simpa using h2, fun i => ?_⟩
    rw [h3 i]
    simp only [Array.size_setIfInBounds, List.length_cons]
    by_cases e : i = o
    · subst e
      rw [if_neg (by omega)]
      by_cases hi : i < cur.size
      · rw [if_pos ⟨by omega, by omega, hi⟩]
        simp [hi]
      · rw [if_neg (by omega)]
        simp [Array.getElem?_eq_none (Nat.le_of_not_lt hi), hi]
    · by_cases hc : o + 1 ≤ i ∧ i < o + 1 + r.length ∧ i < cur.size
      · rw [if_pos hc, if_pos ⟨by omega, by omega, hc.2.2⟩, show i - o = (i - (o + 1)) + 1 by omega]
        simp
      · rw [if_neg hc, if_neg (by omega)]
        rw [Array.getElem?_setIfInBounds_ne (by omega)]
theorem keeps_setCells {g : Nat} : ∀ (vs : List Value) (o : Nat) (w : World), Keeps (fun b => b = g) w (w.setCells g o vs)
  | [], o, w => Keeps.refl _ _
  | v :: r, o, w => ((Keeps.refl (fun b => b = g) w).setCell (p := ⟨g, o, none⟩) (.inl rfl) v).trans (keeps_setCells r (o + 1) _)
section
variable {α : Type} {E : El α}
theorem cells_setE (hE : E.Ok) (x : α) : ∀ (xs : List α) (j i : Nat), j < xs.length → (E.cells (xs.set j x))[i]? = if j * E.k ≤ i ∧ i < j * E.k + E.k then (E.enc x)[i - j * E.k]? else (E.cells xs)[i]?
  | [], j, i, h => absurd h (by simp)
  | y :: r, 0, i, h => by
    simp only [List.set_cons_zero, El.cells, List.flatMap_cons, Nat.zero_mul, Nat.zero_add, Nat.zero_le, true_and, Nat.sub_zero]
    by_cases hi : i < E.k
    · rw [if_pos hi, List.getElem?_append_left (by rw [hE.len]; exact hi)]
    · rw [if_neg hi, List.getElem?_append_right (by rw [hE.len]; omega), List.getElem?_append_right (by rw [hE.len]; omega), hE.len, hE.len]
  | y :: r, j + 1, i, h => by
    have ih := cells_setE hE x r j (i - E.k) (by simpa using h)
    simp only [El.cells] at ih
    simp only [List.set_cons_succ, El.cells, List.flatMap_cons, Nat.succ_mul]
    have hp := hE.pos
    by_cases hi : i < E.k
    · rw [if_neg (by omega), List.getElem?_append_left (by rw [hE.len]; exact hi), List.getElem?_append_left (by rw [hE.len]; exact hi)]
    · rw [List.getElem?_append_right (by rw [hE.len]; omega), List.getElem?_append_right (by rw [hE.len]; omega), hE.len, ih]
      by_cases hc : j * E.k ≤ i - E.k ∧ i - E.k < j * E.k + E.k
      · rw [if_pos hc, if_pos (by omega)]
        congr 1; omega
      · rw [if_neg hc, if_neg (by omega)]
theorem take_eq {l m : List Value} {N : Nat} (h : l.take N = m) (i : Nat) (hi : i < N) : l[i]? = m[i]? := by
  rw [← h, List.getElem?_take, if_pos hi]
/-- one element written over -/
theorem Own.storeE (hE : E.Ok) {w : World} {o : Option Addr} {c : Nat} {xs : List α} (h : Own E w o c xs) (j : Nat) (hj : j < xs.length) (x : α) :
    ∃ g, o = some ⟨g, 0, none⟩ ∧ (∀ i, w.frozen? ⟨g, i, none⟩ = false) ∧ Own E (w.setCells g (j * E.k) (E.enc x)) o c (xs.set j x) ∧ Keeps (inO o) w (w.setCells g (j * E.k) (E.enc x)) := by
  rcases h.shape with ⟨_, _, e⟩ | ⟨g, cur, rfl, hg, hc, hm, hs, ht⟩
  · rw [e] at hj; simp at hj
  · refine ⟨g, rfl, fun i => frozen_of_blk hg i, ?_, (keeps_setCells _ _ _).mono fun b hb => ⟨_, rfl, hb.symm⟩⟩
    obtain ⟨cur', h1, h2, h3⟩ := blk_setCells (E.enc x) (j * E.k) hg
    refine own_of_shape hE h1 (by simpa using hc) hm (by rw [h2, hs]) ?_
    have hjk : j * E.k + E.k ≤ xs.length * E.k := by rw [← Nat.succ_mul]; exact Nat.mul_le_mul_right _ hj
    have hck : xs.length * E.k ≤ c * E.k := Nat.mul_le_mul_right _ hc
    apply List.ext_getElem?
    intro i
    rw [cells_setE hE x xs j i hj, List.getElem?_take, List.length_set]
    by_cases hi : i < xs.length * E.k
    · rw [if_pos hi, Array.getElem?_toList, h3 i, hE.len]
      by_cases hcs : j * E.k ≤ i ∧ i < j * E.k + E.k
      · rw [if_pos ⟨hcs.1, hcs.2, by omega⟩, if_pos hcs]
      · rw [if_neg (by omega), if_neg hcs, ← take_eq ht i hi, Array.getElem?_toList]
    · rw [if_neg hi, if_neg (by omega)]
      have := cells_length hE xs
      rw [List.getElem?_eq_none (by omega)]
end
theorem Own.store1 {α : Type} {E : El α} (hE : E.Ok) {w : World} {o : Option Addr} {c : Nat} {xs : List α} (h : Own E w o c xs) (d : α) (j : Nat) (hj : j < xs.length) (f : Nat) (hf : f < E.k) (x : α) (v : Value) (hx : E.enc x = (E.enc (xs.getD j d)).set f v) :
    ∃ g, o = some ⟨g, 0, none⟩ ∧ (∀ i, w.frozen? ⟨g, i, none⟩ = false) ∧ Own E (w.setCell ⟨g, j * E.k + f, none⟩ v) o c (xs.set j x) ∧ Keeps (inO o) w (w.setCell ⟨g, j * E.k + f, none⟩ v) := by
  rcases h.shape with ⟨_, _, e⟩ | ⟨g, cur, rfl, hg, hc, hm, hs, ht⟩
  · rw [e] at hj; simp at hj
  · refine ⟨g, rfl, fun i => frozen_of_blk hg i, ?_, (Keeps.refl _ _).setCell (.inl ⟨_, rfl, rfl⟩) v⟩
    refine own_of_shape hE (blk_set hg _ _) (by simpa using hc) hm (by simp [hs]) ?_
    have hjk : j * E.k + E.k ≤ xs.length * E.k := by rw [← Nat.succ_mul]; exact Nat.mul_le_mul_right _ hj
    have hck : xs.length * E.k ≤ c * E.k := Nat.mul_le_mul_right _ hc
    apply List.ext_getElem?
    intro i
    rw [cells_setE hE x xs j i hj, List.getElem?_take, List.length_set, Array.getElem?_toList]
    by_cases hi : i < xs.length * E.k
    · rw [if_pos hi]
      by_cases e : i = j * E.k + f
      · subst e
        have hl : f < (E.enc (xs.getD j d)).length := by rw [hE.len]; exact hf
        rw [if_pos (by omega), hx, show j * E.k + f - j * E.k = f by omega, Array.getElem?_setIfInBounds_self_of_lt (by rw [hs]; omega)]
        rw [List.getElem?_set_self hl]
      · rw [Array.getElem?_setIfInBounds_ne (by omega), ← Array.getElem?_toList, take_eq ht i hi]
        split
        · rename_i hcs
          rw [hx, List.getElem?_set_ne (by omega)]
          have := cells_at hE d xs j (i - j * E.k) hj (by omega)
          rw [← this]
          congr 1
          omega
        · rfl
    · rw [if_neg hi, if_neg (by omega)]
      have := cells_length hE xs
      rw [List.getElem?_eq_none (by omega)]
theorem blk_whole {w : World} {g : Nat} {cur : Array Value} {t : TypeId} {fz : Nat × Nat} (h : w.heap[g]? = some (.cells cur t fz)) (vs : List Value) (hl : cur.size = vs.length) : (w.setCells g 0 vs).heap[g]? = some (.cells vs.toArray t fz) := by
  obtain ⟨cur', h1, h2, h3⟩ := blk_setCells vs 0 h
  rw [h1]
  congr 2
  apply Array.ext_getElem?
  intro i
  rw [h3 i]
  by_cases hi : i < vs.length
  · rw [if_pos ⟨by omega, by omega, by omega⟩]; simp
  · rw [if_neg (by omega), Array.getElem?_eq_none (by omega), List.getElem?_toArray, List.getElem?_eq_none (by omega)]
theorem keeps_setCells' {S : Nat → Prop} {a w : World} {g : Nat} (vs : List Value) (o : Nat) (h : Keeps S a w) (hg : S g ∨ a.heap.size ≤ g) : Keeps S a (w.setCells g o vs) :=
  h.then (keeps_setCells vs o w) (fun i hi => by subst hi; exact hg)
end Go.Proofs.YtjkljljmjjnneaaGreatDoor
