/- Plain mathematics: what was written is read again; cut short it is short. -/
import Derived.Test.YtgamhblkgojapaaGreatDoorSpec
namespace Go.Proofs.YtgamhblkgojapaaGreatDoor
namespace Pk
set_option linter.unusedVariables false
set_option linter.unusedSimpArgs false

def maxL (l : List (List Nat)) : Nat := l.foldl (fun m s => max m s.length) 0

theorem take_num (k v : Nat) (t : List Nat) : (num k v ++ t).take k = num k v := by
  rw [List.take_append_of_le_length (by rw [num_length]; omega), List.take_of_length_le (by rw [num_length]; omega)]
theorem drop_num (k v : Nat) (t : List Nat) : (num k v ++ t).drop k = t := by
  rw [List.drop_append_of_le_length (by rw [num_length]; omega), List.drop_of_length_le (by rw [num_length]; omega), List.nil_append]
theorem rnum_full (k v : Nat) (t : List Nat) : rnum k (num k v ++ t, 0) = (v % 256 ^ k, (t, 0)) := by
  unfold rnum
  rw [if_neg (by simp), if_neg (by simp [num_length])]
  simp only
  rw [take_num, drop_num, val_num]
theorem rnum_short (k : Nat) (b : List Nat) (h : b.length < k) : rnum k (b, 0) = (0, (b, 4)) := by simp [rnum, h]
theorem ccount_full (n : Nat) (t : List Nat) (most : Int) (h1 : n < 4294967296) (h2 : n ≤ most.toNat) : ccount (num 4 n ++ t) most = (n, t, 0) := by
  unfold ccount
  have e : val ((num 4 n ++ t).take 4) = n := by rw [take_num, val_num]; exact Nat.mod_eq_of_lt h1
  rw [if_neg (by simp [num_length]), e, if_neg (by omega), drop_num]
theorem ccount_short (b : List Nat) (most : Int) (h : b.length < 4) : ccount b most = (0, b, 4) := by simp [ccount, h]
theorem ctext_full (s t : List Nat) (most : Int) (h1 : s.length < 4294967296) (h2 : s.length ≤ most.toNat) : ctext (txt s ++ t) most = (s, t, 0) := by
  unfold ctext txt
  rw [List.append_assoc, ccount_full _ _ _ h1 h2]
  simp
theorem ctext_short (s t : List Nat) (most : Int) (h1 : s.length < 4294967296) (h2 : s.length ≤ most.toNat) (j : Nat) (hj : j < (txt s).length) : ctext ((txt s ++ t).take j) most = ([], (txt s ++ t).take j, 4) := by
  rw [txt_length] at hj
  by_cases h4 : j < 4
  · unfold ctext
    rw [ccount_short _ _ (by rw [List.length_take]; omega)]
    simp
  · have e : (txt s ++ t).take j = num 4 s.length ++ (s ++ t).take (j - 4) := by
      unfold txt
      rw [List.append_assoc, List.take_append, num_length, List.take_of_length_le (by rw [num_length]; omega)]
    rw [e]
    unfold ctext
    rw [ccount_full _ _ _ h1 h2]
    simp
    omega
theorem ctextsN_cons (n : Nat) (b : List Nat) (most : Int) : ctextsN (n + 1) b most = match ctext b most with
    | (s, r, e) => if e ≠ 0 then ([], b, e) else
      match ctextsN n r most with
      | (l, r', e') => if e' ≠ 0 then ([], b, e') else (s :: l, r', 0) := rfl
theorem ctextsN_full (most : Int) (l : List (List Nat)) : ∀ t, (∀ s ∈ l, s.length < 4294967296 ∧ s.length ≤ most.toNat) → ctextsN l.length (txtsBody l ++ t) most = (l, t, 0) := by
  induction l with
  | nil => intro t _; simp [ctextsN, txtsBody]
  | cons s l ih =>
    intro t h
    obtain ⟨h1, h2⟩ := h s (List.mem_cons_self)
    rw [List.length_cons, ctextsN_cons, txtsBody, List.append_assoc, ctext_full _ _ _ h1 h2]
    simp only [ne_eq, not_true_eq_false, if_false]
    rw [ih t (fun s' hs => h s' (List.mem_cons_of_mem _ hs))]
    simp
theorem take_over (a b : List Nat) (j : Nat) (h : a.length ≤ j) : (a ++ b).take j = a ++ b.take (j - a.length) := by
  rw [List.take_append, List.take_of_length_le h]
theorem ctextsN_short (most : Int) (l : List (List Nat)) : ∀ (t : List Nat) (j : Nat), (∀ s ∈ l, s.length < 4294967296 ∧ s.length ≤ most.toNat) → j < (txtsBody l).length → ctextsN l.length ((txtsBody l ++ t).take j) most = ([], (txtsBody l ++ t).take j, 4) := by
  induction l with
  | nil => intro t j _ h; simp [txtsBody] at h
  | cons s l ih =>
    intro t j h hj
    obtain ⟨h1, h2⟩ := h s (List.mem_cons_self)
    rw [List.length_cons, ctextsN_cons]
    simp only [txtsBody, List.append_assoc]
    by_cases hs : j < (txt s).length
    · rw [ctext_short _ _ _ h1 h2 j hs]
      simp
    · have hs' : (txt s).length ≤ j := Nat.not_lt.mp hs
      have e : (txt s ++ (txtsBody l ++ t)).take j = txt s ++ (txtsBody l ++ t).take (j - (txt s).length) := take_over _ _ _ hs'
      rw [e, ctext_full _ _ _ h1 h2]
      simp only [ne_eq, not_true_eq_false, if_false]
      rw [ih t (j - (txt s).length) (fun s' hs => h s' (List.mem_cons_of_mem _ hs)) (by simp [txtsBody] at hj; omega)]
      simp
theorem ctexts_full (l : List (List Nat)) (t : List Nat) (count most : Int) (hc : l.length ≤ count.toNat) (hl : l.length < 4294967296) (h : ∀ s ∈ l, s.length < 4294967296 ∧ s.length ≤ most.toNat) : ctexts (txts l ++ t) count most = (l, t, 0) := by
  unfold ctexts txts
  rw [List.append_assoc, ccount_full _ _ _ hl hc]
  simp only [ne_eq, not_true_eq_false, if_false]
  rw [ctextsN_full most l t h]
  simp
theorem ctexts_short (l : List (List Nat)) (t : List Nat) (count most : Int) (hc : l.length ≤ count.toNat) (hl : l.length < 4294967296) (h : ∀ s ∈ l, s.length < 4294967296 ∧ s.length ≤ most.toNat) (j : Nat) (hj : j < (txts l).length) : ctexts ((txts l ++ t).take j) count most = ([], (txts l ++ t).take j, 4) := by
  rw [txts_length] at hj
  by_cases h4 : j < 4
  · unfold ctexts
    rw [ccount_short _ _ (by rw [List.length_take]; omega)]
    simp
  · have e : (txts l ++ t).take j = num 4 l.length ++ (txtsBody l ++ t).take (j - 4) := by
      unfold txts
      rw [List.append_assoc, take_over _ _ _ (by rw [num_length]; omega), num_length]
    rw [e]
    unfold ctexts
    rw [ccount_full _ _ _ hl hc]
    simp only [ne_eq, not_true_eq_false, if_false]
    rw [ctextsN_short most l t (j - 4) h (by rw [txtsBody_length]; omega)]
    simp
theorem rtext_full (s t : List Nat) (most : Int) (h1 : s.length < 4294967296) (h2 : s.length ≤ most.toNat) : rtext most (txt s ++ t, 0) = (s, (t, 0)) := by
  simp [rtext, ctext_full s t most h1 h2]
theorem rtext_short (s t : List Nat) (most : Int) (h1 : s.length < 4294967296) (h2 : s.length ≤ most.toNat) (j : Nat) (hj : j < (txt s).length) : (rtext most ((txt s ++ t).take j, 0)).2.2 = 4 := by
  simp [rtext, ctext_short s t most h1 h2 j hj]
theorem rtexts_full (l : List (List Nat)) (t : List Nat) (count most : Int) (hc : l.length ≤ count.toNat) (hl : l.length < 4294967296) (h : ∀ s ∈ l, s.length < 4294967296 ∧ s.length ≤ most.toNat) : rtexts count most (txts l ++ t, 0) = (l, (t, 0)) := by
  simp [rtexts, ctexts_full l t count most hc hl h]
theorem rtexts_short (l : List (List Nat)) (t : List Nat) (count most : Int) (hc : l.length ≤ count.toNat) (hl : l.length < 4294967296) (h : ∀ s ∈ l, s.length < 4294967296 ∧ s.length ≤ most.toNat) (j : Nat) (hj : j < (txts l).length) : (rtexts count most ((txts l ++ t).take j, 0)).2.2 = 4 := by
  simp [rtexts, ctexts_short l t count most hc hl h j hj]

theorem maxL_ge (l : List (List Nat)) : ∀ m, m ≤ l.foldl (fun m s => max m s.length) m ∧ ∀ s ∈ l, s.length ≤ l.foldl (fun m s => max m s.length) m := by
  induction l with
  | nil => intro m; exact ⟨Nat.le_refl _, fun s hs => by cases hs⟩
  | cons x l ih =>
    intro m
    rw [List.foldl_cons]
    obtain ⟨h1, h2⟩ := ih (max m x.length)
    refine ⟨by omega, fun s hs => ?_⟩
    rcases List.mem_cons.mp hs with rfl | hs
    · omega
    · exact h2 s hs
theorem maxL_mem (l : List (List Nat)) (s : List Nat) (h : s ∈ l) : s.length ≤ maxL l := (maxL_ge l 0).2 s h
theorem maxL_snoc (l : List (List Nat)) (s : List Nat) : maxL (l ++ [s]) = max (maxL l) s.length := by simp [maxL]
end Pk
end Go.Proofs.YtgamhblkgojapaaGreatDoor
