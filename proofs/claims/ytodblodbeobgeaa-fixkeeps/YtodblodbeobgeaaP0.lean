/- Torn reads and how they are mended, in pure lists. -/
import Derived.Test.YtodblodbeobgeaaV0
namespace Go.Proofs.Ytodblodbeobgeaa
open Go.RowKit Go.Sort Orl
set_option linter.unusedVariables false
set_option linter.unusedSimpArgs false

/-- one version may be there -/
def oneB (v : Ver) : Bool := if v.id = 0 then decide (v.val = e0) && decide (v.keys.length = 0) else decide (65536 ≤ v.id) && (decide (v.keys.length ≤ 1024) && (rising lts v.keys && inn v.keys v.key))
/-- two that may not stand in one list, the first ahead -/
def badB (x y : Ver) : Bool := decide (x.key = y.key) || (decide (x.id = y.id) && !decide (x.keys = y.keys))
theorem badB_iff (x y : Ver) : badB x y = false ↔ ¬ x.key = y.key ∧ (x.id = y.id → x.keys = y.keys) := by
  unfold badB
  by_cases h1 : x.key = y.key <;> by_cases h2 : x.id = y.id <;> by_cases h3 : x.keys = y.keys <;> simp [h1, h2, h3]
structure Formed (l : List Ver) : Prop where
  pos : 0 < l.length
  most : l.length ≤ 1024
  one : ∀ j, j < l.length → oneB (l.getD j v0) = true
  two : ∀ j k, j < l.length → k < j → badB (l.getD k v0) (l.getD j v0) = false
noncomputable def formedB (l : List Ver) : Bool := @decide (Formed l) (Classical.propDecidable _)
theorem formedB_iff (l : List Ver) : formedB l = true ↔ Formed l := by unfold formedB; simp
theorem formedB_no {l : List Ver} (h : ¬ Formed l) : formedB l = false := by rw [← Bool.not_eq_true, formedB_iff]; exact h
/-- no version is below one whose keys have its key -/
def Whole (l : List Ver) : Prop := ∀ x ∈ l, ∀ y ∈ l, y.key ∈ x.keys → x.id ≤ y.id
noncomputable def wholeB (l : List Ver) : Bool := @decide (Whole l) (Classical.propDecidable _)
theorem wholeB_iff (l : List Ver) : wholeB l = true ↔ Whole l := by unfold wholeB; simp
theorem wholeB_no {l : List Ver} (h : ¬ Whole l) : wholeB l = false := by rw [← Bool.not_eq_true, wholeB_iff]; exact h
def mostS (y : Ver) (m : Nat) (x : Ver) : Nat := if m < x.id ∧ inn x.keys y.key = true then x.id else m
def mostV (l : List Ver) (y : Ver) : Nat := l.foldl (mostS y) y.id
def needsV (l : List Ver) : List Wn := l.filterMap fun y => if y.id < mostV l y then some (y.key, mostV l y) else none
/-- what stands in the place of y -/
def placeV (l got : List Ver) (y : Ver) : Option Ver := if y.id < mostV l y then got.find? (fun g => decide (g.key = y.key) && decide (g.id = mostV l y)) else some y
def mendV (l got : List Ver) : Option (List Ver) := l.mapM (placeV l got)

theorem mostS_ge (y : Ver) (m : Nat) (x : Ver) : m ≤ mostS y m x := by unfold mostS; split <;> omega
theorem fold_ge (y : Ver) : ∀ (l : List Ver) (m : Nat), m ≤ l.foldl (mostS y) m
  | [], m => Nat.le_refl _
  | x :: r, m => Nat.le_trans (mostS_ge y m x) (fold_ge y r _)
theorem fold_le (y : Ver) : ∀ (l : List Ver) (m : Nat), ∀ x ∈ l, y.key ∈ x.keys → x.id ≤ l.foldl (mostS y) m
  | [], m, x, hx, _ => by cases hx
  | a :: r, m, x, hx, hk => by
    rcases List.mem_cons.1 hx with rfl | hx
    · refine Nat.le_trans ?_ (fold_ge y r _)
      unfold mostS
      split
      · omega
      · rename_i h
        have : ¬ m < x.id := fun hm => h ⟨hm, (inn_iff _ _).2 hk⟩
        omega
    · exact fold_le y r _ x hx hk
theorem fold_at (y : Ver) : ∀ (l : List Ver) (m : Nat), l.foldl (mostS y) m = m ∨ ∃ x ∈ l, y.key ∈ x.keys ∧ x.id = l.foldl (mostS y) m
  | [], m => .inl rfl
  | a :: r, m => by
    rcases fold_at y r (mostS y m a) with h | ⟨x, hx, h1, h2⟩
    · by_cases hc : m < a.id ∧ inn a.keys y.key = true
      · have e : mostS y m a = a.id := by unfold mostS; rw [if_pos hc]
        rw [e] at h
        exact .inr ⟨a, by simp, (inn_iff _ _).1 hc.2, by rw [List.foldl_cons, e, h]⟩
      · have e : mostS y m a = m := by unfold mostS; rw [if_neg hc]
        rw [e] at h
        exact .inl (by rw [List.foldl_cons, e, h])
    · exact .inr ⟨x, by simp [hx], h1, h2⟩
theorem most_ge (l : List Ver) (y : Ver) : y.id ≤ mostV l y := fold_ge y l _
theorem most_le (l : List Ver) (y x : Ver) (hx : x ∈ l) (hk : y.key ∈ x.keys) : x.id ≤ mostV l y := fold_le y l _ x hx hk
theorem most_at (l : List Ver) (y : Ver) : mostV l y = y.id ∨ ∃ x ∈ l, y.key ∈ x.keys ∧ x.id = mostV l y := fold_at y l _
theorem most_eq_iff (l : List Ver) (y : Ver) : mostV l y = y.id ↔ ∀ x ∈ l, y.key ∈ x.keys → x.id ≤ y.id := by
  constructor
  · intro h x hx hk
    have := most_le l y x hx hk
    omega
  · intro h
    rcases most_at l y with e | ⟨x, hx, h1, h2⟩
    · exact e
    · have := h x hx h1
      have := most_ge l y
      omega
/-- nothing is wanted of a cut, and just of a cut -/
theorem needs_nil (l : List Ver) : needsV l = [] ↔ Whole l := by
  unfold needsV
  rw [List.filterMap_eq_nil_iff]
  constructor
  · intro h x hx y hy hk
    have h1 := h y hy
    by_cases hlt : y.id < mostV l y
    · rw [if_pos hlt] at h1; cases h1
    · have := most_le l y x hx hk
      omega
  · intro h y hy
    have : mostV l y = y.id := (most_eq_iff l y).2 fun x hx hk => h x hx y hy hk
    rw [if_neg (by omega)]
theorem needs_mem (l : List Ver) (p : Wn) : p ∈ needsV l ↔ ∃ y ∈ l, y.id < mostV l y ∧ p = (y.key, mostV l y) := by
  unfold needsV
  rw [List.mem_filterMap]
  constructor
  · rintro ⟨y, hy, h⟩
    by_cases hlt : y.id < mostV l y
    · rw [if_pos hlt] at h; cases h; exact ⟨y, hy, hlt, rfl⟩
    · rw [if_neg hlt] at h; cases h
  · rintro ⟨y, hy, hlt, rfl⟩
    exact ⟨y, hy, by rw [if_pos hlt]⟩
theorem mend_cut (l got : List Ver) (h : Whole l) : mendV l got = some l := by
  have h1 : ∀ y ∈ l, placeV l got y = some y := by
    intro y hy
    have : mostV l y = y.id := (most_eq_iff l y).2 fun x hx hk => h x hx y hy hk
    unfold placeV
    rw [if_neg (by omega)]
  unfold mendV
  have : ∀ (r : List Ver), (∀ y ∈ r, y ∈ l) → r.mapM (placeV l got) = some r := by
    intro r
    induction r with
    | nil => intro _; rfl
    | cons a r ih => intro hr; rw [List.mapM_cons, h1 a (hr a (by simp)), ih (fun y hy => hr y (by simp [hy]))]; rfl
  exact this l (fun _ h => h)
theorem Formed.keys_inj {l : List Ver} (h : Formed l) {i k : Nat} (hi : i < l.length) (hk : k < l.length) (e : (l.getD i v0).key = (l.getD k v0).key) : i = k := by
  rcases Nat.lt_trichotomy i k with hlt | he | hgt
  · exact absurd e ((badB_iff _ _).1 (h.two k i hk hlt)).1
  · exact he
  · exact absurd e.symm ((badB_iff _ _).1 (h.two i k hi hgt)).1
end Go.Proofs.Ytodblodbeobgeaa
