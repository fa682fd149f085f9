/- NetBooks: the book in pure lists. -/
import Derived.Test.YtdbejihkliafiaaN0
namespace Go.Proofs.Ytdbejihkliafiaa
open Go.RowKit Go.Sort
set_option linter.unusedVariables false
set_option linter.unusedSimpArgs false

structure Bk where
  frm : Int
  dst : Int
  bs : List UInt8
def bk0 : Bk := ⟨0, 0, []⟩
/-- which are under way -/
def ix (g : List Bool) (n : Nat) : List Nat := (List.range n).filter fun k => !(g.getD k true)
def frB (bk : List Bk) (k : Nat) : Fr := ⟨k + 1, (bk.getD k bk0).frm, (bk.getD k bk0).dst, (bk.getD k bk0).bs⟩
def flB (bk : List Bk) (g : List Bool) : List Fr := (ix g bk.length).map (frB bk)
def stB (bk : List Bk) (g : List Bool) : NS := ⟨3, 2, bk.length, flB bk g⟩
theorem ix_succ (g : List Bool) (n : Nat) : ix g (n + 1) = ix g n ++ (if g.getD n true = false then [n] else []) := by
  unfold ix
  rw [List.range_succ, List.filter_append]
  cases h : g.getD n true <;> simp [h, List.filter_cons, -List.getD_eq_getElem?_getD]
theorem ix_lt (g : List Bool) (n k : Nat) (h : k ∈ ix g n) : k < n ∧ g.getD k true = false := by
  unfold ix at h
  have := List.mem_filter.1 h
  exact ⟨List.mem_range.1 this.1, by simpa using this.2⟩
theorem ix_congr {g g' : List Bool} {n : Nat} (h : ∀ k, k < n → g.getD k true = g'.getD k true) : ix g n = ix g' n := by
  unfold ix
  apply List.filter_congr
  intro k hk
  rw [h k (List.mem_range.1 hk)]
theorem ix_len (g : List Bool) (n : Nat) : (ix g n).length ≤ n := by
  unfold ix
  refine Nat.le_trans (List.length_filter_le _ _) (by simp)
theorem ix_nodup (g : List Bool) (n : Nat) : (ix g n).Nodup := by
  unfold ix
  exact List.Pairwise.filter _ List.nodup_range
theorem filter_erase {α : Type} [DecidableEq α] : ∀ (l : List α) (k : Nat) (a : α), l.Nodup → l[k]? = some a → (l.filter fun x => !decide (x = a)) = l.eraseIdx k
  | [], k, a, _, h => by simp at h
  | x :: r, 0, a, hn, h => by
    have e : x = a := by simpa using h
    subst e
    have hx := (List.nodup_cons.1 hn).1
    rw [List.eraseIdx_cons_zero, List.filter_cons, if_neg (by simp)]
    rw [List.filter_eq_self]
    intro y hy
    simp only [Bool.not_eq_true', decide_eq_false_iff_not]
    rintro rfl; exact hx hy
  | x :: r, k + 1, a, hn, h => by
    have hh : r[k]? = some a := by simpa using h
    have hx := (List.nodup_cons.1 hn).1
    have hne : x ≠ a := by
      rintro rfl
      exact hx (List.mem_of_getElem? hh)
    rw [List.eraseIdx_cons_succ, List.filter_cons, if_pos (by simp [hne]), filter_erase r k a (List.nodup_cons.1 hn).2 hh]
theorem ix_set (g : List Bool) (n a k : Nat) (hg : n ≤ g.length) (h : (ix g n)[k]? = some a) : ix (g.set a true) n = (ix g n).eraseIdx k := by
  rw [← filter_erase _ k a (ix_nodup g n) h]
  have ha := ix_lt g n a (List.mem_of_getElem? h)
  unfold ix
  rw [List.filter_filter]
  apply List.filter_congr
  intro j hj
  have hj' := List.mem_range.1 hj
  have e : (g.set a true).getD j true = if j = a then true else g.getD j true := by
    simp only [List.getD_eq_getElem?_getD, List.getElem?_set]
    by_cases e : a = j
    · subst e; rw [if_pos rfl, if_pos rfl]; have : a < g.length := by omega
      simp [this]
    · rw [if_neg e, if_neg (fun h => e h.symm)]
  rw [e]
  by_cases e2 : j = a
  · subst e2; simp
  · simp [e2]
theorem map_erase {α β : Type} (f : α → β) : ∀ (l : List α) (k : Nat), (l.eraseIdx k).map f = (l.map f).eraseIdx k
  | [], k => by simp
  | x :: r, 0 => by simp
  | x :: r, k + 1 => by simp [map_erase f r k]
theorem flB_set (bk : List Bk) (g : List Bool) (a k : Nat) (hg : g.length = bk.length) (h : (ix g bk.length)[k]? = some a) : flB bk (g.set a true) = (flB bk g).eraseIdx k := by
  unfold flB
  rw [ix_set g _ a k (by omega) h, map_erase]
theorem flB_push (bk : List Bk) (g : List Bool) (b : Bk) (hg : g.length = bk.length) : flB (bk ++ [b]) (g ++ [false]) = flB bk g ++ [⟨bk.length + 1, b.frm, b.dst, b.bs⟩] := by
  have e1 : (g ++ [false]).getD bk.length true = false := by rw [getD_app1, hg, if_neg (Nat.lt_irrefl _), if_pos rfl]
  have e2 : ix (g ++ [false]) bk.length = ix g bk.length := ix_congr (fun k hk => by rw [getD_app1, hg, if_pos hk])
  have e3 : frB (bk ++ [b]) bk.length = ⟨bk.length + 1, b.frm, b.dst, b.bs⟩ := by
    unfold frB
    rw [getD_app1, if_neg (Nat.lt_irrefl _), if_pos rfl]
  unfold flB
  rw [List.length_append, List.length_singleton, ix_succ, e1, if_pos rfl, e2, List.map_append]
  congr 1
  · apply List.map_congr_left
    intro k hk
    have := (ix_lt g _ k hk).1
    unfold frB
    rw [getD_app1, if_pos this]
  · rw [List.map_singleton, e3]
theorem flB_len (bk : List Bk) (g : List Bool) : (flB bk g).length = (ix g bk.length).length := by unfold flB; simp
theorem flB_at (bk : List Bk) (g : List Bool) {k a : Nat} (h : (ix g bk.length)[k]? = some a) : (flB bk g).getD k fr0 = frB bk a := by
  unfold flB
  simp [List.getD_eq_getElem?_getD, h]
/-- the one at that place among the first n; -1: none -/
def atI (g : List Bool) (n pl : Nat) : Int := match (ix g n)[pl]? with | some k => (k : Int) | none => -1
theorem atI_succ (g : List Bool) (n pl : Nat) : atI g (n + 1) pl = if g.getD n true = false ∧ (ix g n).length = pl then (n : Int) else atI g n pl := by
  unfold atI
  rw [ix_succ]
  by_cases h : g.getD n true = false
  · rw [if_pos h]
    by_cases e : (ix g n).length = pl
    · rw [if_pos ⟨h, e⟩, ← e]; simp
    · rw [if_neg (fun hh => e hh.2)]
      by_cases hl : pl < (ix g n).length
      · rw [List.getElem?_append_left hl]
      · rw [List.getElem?_append_right (by omega), List.getElem?_eq_none (by simp; omega), List.getElem?_eq_none (by omega)]
  · rw [if_neg h, if_neg (fun hh => h hh.1), List.append_nil]
theorem atI_zero (g : List Bool) (pl : Nat) : atI g 0 pl = -1 := by simp [atI, ix]
theorem atI_has (g : List Bool) (n pl : Nat) (h : pl < (ix g n).length) : ∃ a : Nat, (ix g n)[pl]? = some a ∧ atI g n pl = a ∧ a < n := by
  refine ⟨(ix g n)[pl], List.getElem?_eq_getElem h, ?_, (ix_lt g n _ (List.getElem_mem h)).1⟩
  unfold atI; rw [List.getElem?_eq_getElem h]
theorem atI_no (g : List Bool) (n pl : Nat) (h : ¬ pl < (ix g n).length) : atI g n pl = -1 := by
  unfold atI; rw [List.getElem?_eq_none (by omega)]
/-! ### the end: those from k on -/
def ixF (g : List Bool) (n k : Nat) : List Nat := (List.range' k (n - k)).filter fun j => !(g.getD j true)
def flF (bk : List Bk) (g : List Bool) (k : Nat) : List Fr := (ixF g bk.length k).map (frB bk)
theorem ixF_zero (g : List Bool) (n : Nat) : ixF g n 0 = ix g n := by unfold ixF ix; rw [Nat.sub_zero, List.range_eq_range']
theorem ixF_step (g : List Bool) (n k : Nat) (hk : k < n) : ixF g n k = if g.getD k true = false then k :: ixF g n (k + 1) else ixF g n (k + 1) := by
  unfold ixF
  rw [show n - k = (n - (k + 1)) + 1 by omega, List.range'_succ, List.filter_cons]
  cases h : g.getD k true <;> simp
theorem ixF_end (g : List Bool) (n : Nat) : ixF g n n = [] := by unfold ixF; rw [Nat.sub_self]; rfl
theorem flF_yes (bk : List Bk) (g : List Bool) (k : Nat) (hk : k < bk.length) (h : g.getD k true = false) : flF bk g k = frB bk k :: flF bk g (k + 1) := by
  unfold flF; rw [ixF_step g _ k hk, if_pos h]; rfl
theorem flF_no (bk : List Bk) (g : List Bool) (k : Nat) (hk : k < bk.length) (h : g.getD k true = true) : flF bk g k = flF bk g (k + 1) := by
  unfold flF; rw [ixF_step g _ k hk, if_neg (by rw [h]; simp)]
theorem flF_end (bk : List Bk) (g : List Bool) : flF bk g bk.length = [] := by unfold flF; rw [ixF_end]; rfl
theorem flF_zero (bk : List Bk) (g : List Bool) : flF bk g 0 = flB bk g := by unfold flF flB; rw [ixF_zero]
theorem ixF_mem {g : List Bool} {n k j : Nat} (h : j ∈ ixF g n k) : j ∈ ix g n := by
  unfold ixF at h
  have h1 := List.mem_filter.1 h
  have h2 := List.mem_range'_1.1 h1.1
  unfold ix
  exact List.mem_filter.2 ⟨List.mem_range.2 (by omega), h1.2⟩
theorem ixF_len (g : List Bool) (n k : Nat) : (ixF g n k).length ≤ n := by
  unfold ixF
  refine Nat.le_trans (List.length_filter_le _ _) (by simp)
theorem flF_wf {bk : List Bk} {g : List Bool} (h : NWf (stB bk g) bk.length) (k : Nat) : NWf ⟨3, 2, bk.length, flF bk g k⟩ bk.length where
  p1 := h.p1
  p2 := h.p2
  c1 := h.c1
  c2 := h.c2
  num := Nat.le_refl _
  len := by show (flF bk g k).length ≤ bk.length; unfold flF; rw [List.length_map]; exact ixF_len g _ k
  each := fun f hf => by
    refine h.each f ?_
    have hf' : f ∈ flF bk g k := hf
    unfold flF at hf'
    obtain ⟨j, hj, rfl⟩ := List.mem_map.1 hf'
    show frB bk j ∈ flB bk g
    unfold flB
    exact List.mem_map.2 ⟨j, ixF_mem hj, rfl⟩
theorem flF_del (bk : List Bk) (g : List Bool) (k : Nat) (hk : k < bk.length) (h : g.getD k true = false) : hasS ⟨3, 2, bk.length, flF bk g k⟩ 0 = true ∧ delF ⟨3, 2, bk.length, flF bk g k⟩ 0 = frB bk k ∧ delS ⟨3, 2, bk.length, flF bk g k⟩ 0 = ⟨3, 2, bk.length, flF bk g (k + 1)⟩ := by
  have e := flF_yes bk g k hk h
  have hh : hasS ⟨3, 2, bk.length, flF bk g k⟩ 0 = true := by
    unfold hasS; simp only; rw [e]; simp
  refine ⟨hh, ?_, ?_⟩
  · unfold delF; rw [if_pos hh]; simp only; rw [e]; rfl
  · unfold delS; rw [if_pos hh]; simp only; rw [e]; rfl
end Go.Proofs.Ytdbejihkliafiaa
