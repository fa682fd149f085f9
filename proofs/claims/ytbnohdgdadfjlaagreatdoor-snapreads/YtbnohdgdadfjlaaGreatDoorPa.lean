/- Plain mathematics: bytes of numbers and texts, what writers and readers hold. On Nat and lists alone. -/
namespace Go.Proofs.YtbnohdgdadfjlaaGreatDoor
namespace Pk
set_option linter.unusedVariables false
set_option linter.unusedSimpArgs false

/-- so many bytes of v, the highest first -/
def num : Nat → Nat → List Nat
  | 0, _ => []
  | k + 1, v => num k (v / 256) ++ [v % 256]

/-- the number that bytes make -/
def val (l : List Nat) : Nat := l.foldl (fun v c => v * 256 + c) 0

theorem num_length (k v : Nat) : (num k v).length = k := by
  induction k generalizing v with
  | zero => rfl
  | succ k ih => simp [num, ih]

theorem num_lt (k v : Nat) : ∀ c ∈ num k v, c < 256 := by
  induction k generalizing v with
  | zero => intro c hc; cases hc
  | succ k ih =>
    intro c hc
    simp [num] at hc
    rcases hc with h | h
    · exact ih _ c h
    · omega

theorem num_mod (k v : Nat) : num k (v % 256 ^ k) = num k v := by
  induction k generalizing v with
  | zero => rfl
  | succ k ih =>
    unfold num
    have e1 : v % 256 ^ (k + 1) % 256 = v % 256 := Nat.mod_mod_of_dvd v ⟨256 ^ k, by rw [Nat.pow_succ, Nat.mul_comm]⟩
    have e2 : v % 256 ^ (k + 1) / 256 = v / 256 % 256 ^ k := by
      rw [Nat.pow_succ, Nat.mul_comm, Nat.mod_mul_right_div_self]
    rw [e1, e2, ih]

theorem val_append (a b : List Nat) : val (a ++ b) = b.foldl (fun v c => v * 256 + c) (val a) := by
  simp [val]

theorem val_num (k v : Nat) : val (num k v) = v % 256 ^ k := by
  induction k generalizing v with
  | zero => simp [num, val]; omega
  | succ k ih =>
    rw [num, val_append, List.foldl_cons, List.foldl_nil, ih, Nat.pow_succ, Nat.mul_comm (256 ^ k) 256, Nat.mod_mul]
    omega

theorem val_lt (l : List Nat) (h : ∀ c ∈ l, c < 256) : val l < 256 ^ l.length := by
  have : ∀ (l : List Nat) (s n : Nat), (∀ c ∈ l, c < 256) → s < 256 ^ n → l.foldl (fun v c => v * 256 + c) s < 256 ^ (n + l.length) := by
    intro l
    induction l with
    | nil => intro s n _ hs; simpa using hs
    | cons c l ih =>
      intro s n hl hs
      rw [List.foldl_cons, List.length_cons, show n + (l.length + 1) = (n + 1) + l.length by omega]
      apply ih _ _ (fun x hx => hl x (List.mem_cons_of_mem _ hx))
      have := hl c (List.mem_cons_self)
      rw [Nat.pow_succ]
      omega
  have := this l 0 0 h (by simp)
  simpa [val] using this

/-- a text's bytes, and those of texts -/
def txt (s : List Nat) : List Nat := num 4 s.length ++ s
def txtsBody : List (List Nat) → List Nat
  | [] => []
  | s :: l => txt s ++ txtsBody l
def txts (l : List (List Nat)) : List Nat := num 4 l.length ++ txtsBody l

theorem txt_length (s : List Nat) : (txt s).length = 4 + s.length := by simp [txt, num_length]

def bodyLen : List (List Nat) → Nat
  | [] => 0
  | s :: l => 4 + s.length + bodyLen l
theorem txtsBody_length (l : List (List Nat)) : (txtsBody l).length = bodyLen l := by
  induction l with
  | nil => rfl
  | cons s l ih => simp [txtsBody, bodyLen, txt_length, ih]
theorem txts_length (l : List (List Nat)) : (txts l).length = 4 + bodyLen l := by simp [txts, num_length, txtsBody_length]
theorem txtsBody_append (a b : List (List Nat)) : txtsBody (a ++ b) = txtsBody a ++ txtsBody b := by
  induction a with
  | nil => rfl
  | cons s l ih => simp [txtsBody, ih]
theorem bodyLen_append (a b : List (List Nat)) : bodyLen (a ++ b) = bodyLen a + bodyLen b := by
  induction a with
  | nil => simp [bodyLen]
  | cons s l ih => simp [bodyLen, ih]; omega

/-- a writer's state: what was written, the error -/
abbrev WS := List Nat × Nat
def lay (L : Nat) (st : WS) (news : List Nat) : WS :=
  if st.2 ≠ 0 then st else if L < st.1.length + news.length then (st.1, 3) else (st.1 ++ news, 0)

/-- a reader's state: what is left, the error -/
abbrev RS := List Nat × Nat
def rnum (k : Nat) (st : RS) : Nat × RS :=
  if st.2 ≠ 0 then (0, st) else if st.1.length < k then (0, (st.1, 4)) else (val (st.1.take k), (st.1.drop k, 0))

/-- the count ahead of b: the number, what is behind it, the error -/
def ccount (b : List Nat) (most : Int) : Nat × List Nat × Nat :=
  if b.length < 4 then (0, b, 4) else if most.toNat < val (b.take 4) then (0, b, 3) else (val (b.take 4), b.drop 4, 0)
def ctext (b : List Nat) (most : Int) : List Nat × List Nat × Nat :=
  match ccount b most with
  | (n, r, e) => if e ≠ 0 then ([], b, e) else if r.length < n then ([], b, 4) else (r.take n, r.drop n, 0)
/-- n texts ahead of b -/
def ctextsN : Nat → List Nat → Int → List (List Nat) × List Nat × Nat
  | 0, b, _ => ([], b, 0)
  | n + 1, b, most =>
    match ctext b most with
    | (s, r, e) => if e ≠ 0 then ([], b, e) else
      match ctextsN n r most with
      | (l, r', e') => if e' ≠ 0 then ([], b, e') else (s :: l, r', 0)
def ctexts (b : List Nat) (count most : Int) : List (List Nat) × List Nat × Nat :=
  match ccount b count with
  | (n, r, e) => if e ≠ 0 then ([], b, e) else
    match ctextsN n r most with
    | (l, r', e') => if e' ≠ 0 then ([], b, e') else (l, r', 0)

def rcount (most : Int) (st : RS) : Nat × RS :=
  if st.2 ≠ 0 then (0, st) else
  match ccount st.1 most with
  | (n, r, e) => if e ≠ 0 then (0, (st.1, e)) else (n, (r, 0))
def rtext (most : Int) (st : RS) : List Nat × RS :=
  if st.2 ≠ 0 then ([], st) else
  match ctext st.1 most with
  | (s, r, e) => if e ≠ 0 then ([], (st.1, e)) else (s, (r, 0))
def rtexts (count most : Int) (st : RS) : List (List Nat) × RS :=
  if st.2 ≠ 0 then ([], st) else
  match ctexts st.1 count most with
  | (s, r, e) => if e ≠ 0 then ([], (st.1, e)) else (s, (r, 0))

end Pk
end Go.Proofs.YtbnohdgdadfjlaaGreatDoor
/- Plain mathematics: what was written is read again; cut short it is short. -/
namespace Go.Proofs.YtbnohdgdadfjlaaGreatDoor
namespace Pk
set_option linter.unusedVariables false
set_option linter.unusedSimpArgs false

def maxL (l : List (List Nat)) : Nat := l.foldl (fun m s => max m s.length) 0

theorem take_num (k v : Nat) (t : List Nat) : (num k v ++ t).take k = num k v := by
  rw [List.take_append_of_le_length (by rw [num_length]; omega), List.take_of_length_le (by rw [num_length]; omega)]
theorem drop_num (k v : Nat) (t : List Nat) : (num k v ++ t).drop k = t := by
  rw [List.drop_append_of_le_length (by rw [num_length]; omega), List.drop_of_length_le (by rw [num_length]; omega), List.nil_append]
theorem rnum_full (k v : Nat) (t : List Nat) : rnum k (num k v ++ t, 0) = (v % 256 ^ k, (t, 0)) := by
  unfold rnum
  rw [if_neg (by simp), if_neg (by simp [num_length])]
  simp only
  rw [take_num, drop_num, val_num]
theorem rnum_short (k : Nat) (b : List Nat) (h : b.length < k) : rnum k (b, 0) = (0, (b, 4)) := by simp [rnum, h]
theorem ccount_full (n : Nat) (t : List Nat) (most : Int) (h1 : n < 4294967296) (h2 : n ≤ most.toNat) : ccount (num 4 n ++ t) most = (n, t, 0) := by
  unfold ccount
  have e : val ((num 4 n ++ t).take 4) = n := by rw [take_num, val_num]; exact Nat.mod_eq_of_lt h1
  rw [if_neg (by simp [num_length]), e, if_neg (by omega), drop_num]
theorem ccount_short (b : List Nat) (most : Int) (h : b.length < 4) : ccount b most = (0, b, 4) := by simp [ccount, h]
theorem ctext_full (s t : List Nat) (most : Int) (h1 : s.length < 4294967296) (h2 : s.length ≤ most.toNat) : ctext (txt s ++ t) most = (s, t, 0) := by
  unfold ctext txt
  rw [List.append_assoc, ccount_full _ _ _ h1 h2]
  simp
theorem ctext_short (s t : List Nat) (most : Int) (h1 : s.length < 4294967296) (h2 : s.length ≤ most.toNat) (j : Nat) (hj : j < (txt s).length) : ctext ((txt s ++ t).take j) most = ([], (txt s ++ t).take j, 4) := by
  rw [txt_length] at hj
  by_cases h4 : j < 4
  · unfold ctext
    rw [ccount_short _ _ (by rw [List.length_take]; omega)]
    simp
  · have e : (txt s ++ t).take j = num 4 s.length ++ (s ++ t).take (j - 4) := by
      unfold txt
      rw [List.append_assoc, List.take_append, num_length, List.take_of_length_le (by rw [num_length]; omega)]
    rw [e]
    unfold ctext
    rw [ccount_full _ _ _ h1 h2]
    simp
    omega
theorem ctextsN_cons (n : Nat) (b : List Nat) (most : Int) : ctextsN (n + 1) b most = match ctext b most with
    | (s, r, e) => if e ≠ 0 then ([], b, e) else
      match ctextsN n r most with
      | (l, r', e') => if e' ≠ 0 then ([], b, e') else (s :: l, r', 0) := rfl
theorem ctextsN_full (most : Int) (l : List (List Nat)) : ∀ t, (∀ s ∈ l, s.length < 4294967296 ∧ s.length ≤ most.toNat) → ctextsN l.length (txtsBody l ++ t) most = (l, t, 0) := by
  induction l with
  | nil => intro t _; simp [ctextsN, txtsBody]
  | cons s l ih =>
    intro t h
    obtain ⟨h1, h2⟩ := h s (List.mem_cons_self)
    rw [List.length_cons, ctextsN_cons, txtsBody, List.append_assoc, ctext_full _ _ _ h1 h2]
    simp only [ne_eq, not_true_eq_false, if_false]
    rw [ih t (fun s' hs => h s' (List.mem_cons_of_mem _ hs))]
    simp
theorem take_over (a b : List Nat) (j : Nat) (h : a.length ≤ j) : (a ++ b).take j = a ++ b.take (j - a.length) := by
  rw [List.take_append, List.take_of_length_le h]
theorem ctextsN_short (most : Int) (l : List (List Nat)) : ∀ (t : List Nat) (j : Nat), (∀ s ∈ l, s.length < 4294967296 ∧ s.length ≤ most.toNat) → j < (txtsBody l).length → ctextsN l.length ((txtsBody l ++ t).take j) most = ([], (txtsBody l ++ t).take j, 4) := by
  induction l with
  | nil => intro t j _ h; simp [txtsBody] at h
  | cons s l ih =>
    intro t j h hj
    obtain ⟨h1, h2⟩ := h s (List.mem_cons_self)
    rw [List.length_cons, ctextsN_cons]
    simp only [txtsBody, List.append_assoc]
    by_cases hs : j < (txt s).length
    · rw [ctext_short _ _ _ h1 h2 j hs]
      simp
    · have hs' : (txt s).length ≤ j := Nat.not_lt.mp hs
      have e : (txt s ++ (txtsBody l ++ t)).take j = txt s ++ (txtsBody l ++ t).take (j - (txt s).length) := take_over _ _ _ hs'
      rw [e, ctext_full _ _ _ h1 h2]
      simp only [ne_eq, not_true_eq_false, if_false]
      rw [ih t (j - (txt s).length) (fun s' hs => h s' (List.mem_cons_of_mem _ hs)) (by simp [txtsBody] at hj; omega)]
      simp
theorem ctexts_full (l : List (List Nat)) (t : List Nat) (count most : Int) (hc : l.length ≤ count.toNat) (hl : l.length < 4294967296) (h : ∀ s ∈ l, s.length < 4294967296 ∧ s.length ≤ most.toNat) : ctexts (txts l ++ t) count most = (l, t, 0) := by
  unfold ctexts txts
  rw [List.append_assoc, ccount_full _ _ _ hl hc]
  simp only [ne_eq, not_true_eq_false, if_false]
  rw [ctextsN_full most l t h]
  simp
theorem ctexts_short (l : List (List Nat)) (t : List Nat) (count most : Int) (hc : l.length ≤ count.toNat) (hl : l.length < 4294967296) (h : ∀ s ∈ l, s.length < 4294967296 ∧ s.length ≤ most.toNat) (j : Nat) (hj : j < (txts l).length) : ctexts ((txts l ++ t).take j) count most = ([], (txts l ++ t).take j, 4) := by
  rw [txts_length] at hj
  by_cases h4 : j < 4
  · unfold ctexts
    rw [ccount_short _ _ (by rw [List.length_take]; omega)]
    simp
  · have e : (txts l ++ t).take j = num 4 l.length ++ (txtsBody l ++ t).take (j - 4) := by
      unfold txts
      rw [List.append_assoc, take_over _ _ _ (by rw [num_length]; omega), num_length]
    rw [e]
    unfold ctexts
    rw [ccount_full _ _ _ hl hc]
    simp only [ne_eq, not_true_eq_false, if_false]
    rw [ctextsN_short most l t (j - 4) h (by rw [txtsBody_length]; omega)]
    simp
theorem rtext_full (s t : List Nat) (most : Int) (h1 : s.length < 4294967296) (h2 : s.length ≤ most.toNat) : rtext most (txt s ++ t, 0) = (s, (t, 0)) := by
  simp [rtext, ctext_full s t most h1 h2]
theorem rtext_short (s t : List Nat) (most : Int) (h1 : s.length < 4294967296) (h2 : s.length ≤ most.toNat) (j : Nat) (hj : j < (txt s).length) : (rtext most ((txt s ++ t).take j, 0)).2.2 = 4 := by
  simp [rtext, ctext_short s t most h1 h2 j hj]
theorem rtexts_full (l : List (List Nat)) (t : List Nat) (count most : Int) (hc : l.length ≤ count.toNat) (hl : l.length < 4294967296) (h : ∀ s ∈ l, s.length < 4294967296 ∧ s.length ≤ most.toNat) : rtexts count most (txts l ++ t, 0) = (l, (t, 0)) := by
  simp [rtexts, ctexts_full l t count most hc hl h]
theorem rtexts_short (l : List (List Nat)) (t : List Nat) (count most : Int) (hc : l.length ≤ count.toNat) (hl : l.length < 4294967296) (h : ∀ s ∈ l, s.length < 4294967296 ∧ s.length ≤ most.toNat) (j : Nat) (hj : j < (txts l).length) : (rtexts count most ((txts l ++ t).take j, 0)).2.2 = 4 := by
  simp [rtexts, ctexts_short l t count most hc hl h j hj]

theorem maxL_ge (l : List (List Nat)) : ∀ m, m ≤ l.foldl (fun m s => max m s.length) m ∧ ∀ s ∈ l, s.length ≤ l.foldl (fun m s => max m s.length) m := by
  induction l with
  | nil => intro m; exact ⟨Nat.le_refl _, fun s hs => by cases hs⟩
  | cons x l ih =>
    intro m
    rw [List.foldl_cons]
    obtain ⟨h1, h2⟩ := ih (max m x.length)
    refine ⟨by omega, fun s hs => ?_⟩
    rcases List.mem_cons.mp hs with rfl | hs
    · omega
    · exact h2 s hs
theorem maxL_mem (l : List (List Nat)) (s : List Nat) (h : s ∈ l) : s.length ≤ maxL l := (maxL_ge l 0).2 s h
theorem maxL_snoc (l : List (List Nat)) (s : List Nat) : maxL (l ++ [s]) = max (maxL l) s.length := by simp [maxL]
end Pk
end Go.Proofs.YtbnohdgdadfjlaaGreatDoor
