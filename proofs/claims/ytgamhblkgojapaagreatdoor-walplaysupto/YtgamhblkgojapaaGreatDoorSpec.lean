/- Plain mathematics: bytes of numbers and texts, what writers and readers hold. On Nat and lists alone. -/
namespace Go.Proofs.YtgamhblkgojapaaGreatDoor
namespace Pk
set_option linter.unusedVariables false
set_option linter.unusedSimpArgs false

/-- so many bytes of v, the highest first -/
def num : Nat → Nat → List Nat
  | 0, _ => []
  | k + 1, v => num k (v / 256) ++ [v % 256]

/-- the number that bytes make -/
def val (l : List Nat) : Nat := l.foldl (fun v c => v * 256 + c) 0

theorem num_length (k v : Nat) : (num k v).length = k := by
  induction k generalizing v with
  | zero => rfl
  | succ k ih => simp [num, ih]

theorem num_lt (k v : Nat) : ∀ c ∈ num k v, c < 256 := by
  induction k generalizing v with
  | zero => intro c hc; cases hc
  | succ k ih =>
    intro c hc
    simp [num] at hc
    rcases hc with h | h
    · exact ih _ c h
    · omega

theorem num_mod (k v : Nat) : num k (v % 256 ^ k) = num k v := by
  induction k generalizing v with
  | zero => rfl
  | succ k ih =>
    unfold num
    have e1 : v % 256 ^ (k + 1) % 256 = v % 256 := Nat.mod_mod_of_dvd v ⟨256 ^ k, by rw [Nat.pow_succ, Nat.mul_comm]⟩
    have e2 : v % 256 ^ (k + 1) / 256 = v / 256 % 256 ^ k := by
      rw [Nat.pow_succ, Nat.mul_comm, Nat.mod_mul_right_div_self]
    rw [e1, e2, ih]

theorem val_append (a b : List Nat) : val (a ++ b) = b.foldl (fun v c => v * 256 + c) (val a) := by
  simp [val]

theorem val_num (k v : Nat) : val (num k v) = v % 256 ^ k := by
  induction k generalizing v with
  | zero => simp [num, val]; omega
  | succ k ih =>
    rw [num, val_append, List.foldl_cons, List.foldl_nil, ih, Nat.pow_succ, Nat.mul_comm (256 ^ k) 256, Nat.mod_mul]
    omega

theorem val_lt (l : List Nat) (h : ∀ c ∈ l, c < 256) : val l < 256 ^ l.length := by
  have : ∀ (l : List Nat) (s n : Nat), (∀ c ∈ l, c < 256) → s < 256 ^ n → l.foldl (fun v c => v * 256 + c) s < 256 ^ (n + l.length) := by
    intro l
    induction l with
    | nil => intro s n _ hs; simpa using hs
    | cons c l ih =>
      intro s n hl hs
      rw [List.foldl_cons, List.length_cons, show n + (l.length + 1) = (n + 1) + l.length by omega]
      apply ih _ _ (fun x hx => hl x (List.mem_cons_of_mem _ hx))
      have := hl c (List.mem_cons_self)
      rw [Nat.pow_succ]
      omega
  have := this l 0 0 h (by simp)
  simpa [val] using this

/-- a text's bytes, and those of texts -/
def txt (s : List Nat) : List Nat := num 4 s.length ++ s
def txtsBody : List (List Nat) → List Nat
  | [] => []
  | s :: l => txt s ++ txtsBody l
def txts (l : List (List Nat)) : List Nat := num 4 l.length ++ txtsBody l

theorem txt_length (s : List Nat) : (txt s).length = 4 + s.length := by simp [txt, num_length]

def bodyLen : List (List Nat) → Nat
  | [] => 0
  | s :: l => 4 + s.length + bodyLen l
theorem txtsBody_length (l : List (List Nat)) : (txtsBody l).length = bodyLen l := by
  induction l with
  | nil => rfl
  | cons s l ih => simp [txtsBody, bodyLen, txt_length, ih]
theorem txts_length (l : List (List Nat)) : (txts l).length = 4 + bodyLen l := by simp [txts, num_length, txtsBody_length]
theorem txtsBody_append (a b : List (List Nat)) : txtsBody (a ++ b) = txtsBody a ++ txtsBody b := by
  induction a with
  | nil => rfl
  | cons s l ih => simp [txtsBody, ih]
theorem bodyLen_append (a b : List (List Nat)) : bodyLen (a ++ b) = bodyLen a + bodyLen b := by
  induction a with
  | nil => simp [bodyLen]
  | cons s l ih => simp [bodyLen, ih]; omega

/-- a writer's state: what was written, the error -/
abbrev WS := List Nat × Nat
def lay (L : Nat) (st : WS) (news : List Nat) : WS :=
  if st.2 ≠ 0 then st else if L < st.1.length + news.length then (st.1, 3) else (st.1 ++ news, 0)

/-- a reader's state: what is left, the error -/
abbrev RS := List Nat × Nat
def rnum (k : Nat) (st : RS) : Nat × RS :=
  if st.2 ≠ 0 then (0, st) else if st.1.length < k then (0, (st.1, 4)) else (val (st.1.take k), (st.1.drop k, 0))

/-- the count ahead of b: the number, what is behind it, the error -/
def ccount (b : List Nat) (most : Int) : Nat × List Nat × Nat :=
  if b.length < 4 then (0, b, 4) else if most.toNat < val (b.take 4) then (0, b, 3) else (val (b.take 4), b.drop 4, 0)
def ctext (b : List Nat) (most : Int) : List Nat × List Nat × Nat :=
  match ccount b most with
  | (n, r, e) => if e ≠ 0 then ([], b, e) else if r.length < n then ([], b, 4) else (r.take n, r.drop n, 0)
/-- n texts ahead of b -/
def ctextsN : Nat → List Nat → Int → List (List Nat) × List Nat × Nat
  | 0, b, _ => ([], b, 0)
  | n + 1, b, most =>
    match ctext b most with
    | (s, r, e) => if e ≠ 0 then ([], b, e) else
      match ctextsN n r most with
      | (l, r', e') => if e' ≠ 0 then ([], b, e') else (s :: l, r', 0)
def ctexts (b : List Nat) (count most : Int) : List (List Nat) × List Nat × Nat :=
  match ccount b count with
  | (n, r, e) => if e ≠ 0 then ([], b, e) else
    match ctextsN n r most with
    | (l, r', e') => if e' ≠ 0 then ([], b, e') else (l, r', 0)

def rcount (most : Int) (st : RS) : Nat × RS :=
  if st.2 ≠ 0 then (0, st) else
  match ccount st.1 most with
  | (n, r, e) => if e ≠ 0 then (0, (st.1, e)) else (n, (r, 0))
def rtext (most : Int) (st : RS) : List Nat × RS :=
  if st.2 ≠ 0 then ([], st) else
  match ctext st.1 most with
  | (s, r, e) => if e ≠ 0 then ([], (st.1, e)) else (s, (r, 0))
def rtexts (count most : Int) (st : RS) : List (List Nat) × RS :=
  if st.2 ≠ 0 then ([], st) else
  match ctexts st.1 count most with
  | (s, r, e) => if e ≠ 0 then ([], (st.1, e)) else (s, (r, 0))

end Pk
end Go.Proofs.YtgamhblkgojapaaGreatDoor
