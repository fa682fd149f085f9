namespace Go.Proofs.YtdemoghlibnooaaGreatDoor.Crc
def sh (r : Nat) : Nat := r / 2 ^^^ (r % 2 * 3988292384)
def shn : Nat → Nat → Nat
  | 0, r => r
  | k + 1, r => sh (shn k r)
theorem xor_four (a b c d : Nat) : (a ^^^ b) ^^^ (c ^^^ d) = (a ^^^ c) ^^^ (b ^^^ d) := by
  rw [Nat.xor_assoc, Nat.xor_assoc, ← Nat.xor_assoc b, Nat.xor_comm b c, Nat.xor_assoc c]
theorem xor_mod2 (a b : Nat) : (a ^^^ b) % 2 = a % 2 ^^^ b % 2 := by
  have := Nat.xor_mod_two_pow (a := a) (b := b) (n := 1)
  simpa using this
theorem mul_xor (a b c : Nat) (ha : a < 2) (hb : b < 2) : (a ^^^ b) * c = a * c ^^^ b * c := by
  have h1 : a = 0 ∨ a = 1 := by omega
  have h2 : b = 0 ∨ b = 1 := by omega
  rcases h1 with rfl | rfl <;> rcases h2 with rfl | rfl <;> simp
theorem sh_xor (a b : Nat) : sh (a ^^^ b) = sh a ^^^ sh b := by
  unfold sh
  rw [Nat.xor_div_two, xor_mod2, mul_xor _ _ _ (Nat.mod_lt _ (by decide)) (Nat.mod_lt _ (by decide)), xor_four]
theorem sh_lt (r : Nat) (h : r < 4294967296) : sh r < 4294967296 := by
  unfold sh
  have : r % 2 * 3988292384 < 2 ^ 32 := by omega
  exact Nat.xor_lt_two_pow (n := 32) (by omega) this
theorem shn_xor (k a b : Nat) : shn k (a ^^^ b) = shn k a ^^^ shn k b := by
  induction k with
  | zero => rfl
  | succ k ih => simp only [shn, ih, sh_xor]
theorem shn_lt (k r : Nat) (h : r < 4294967296) : shn k r < 4294967296 := by
  induction k with
  | zero => exact h
  | succ k ih => exact sh_lt _ ih
theorem shn_add (j k r : Nat) : shn (j + k) r = shn j (shn k r) := by
  induction j with
  | zero => simp [shn]
  | succ j ih => rw [show j + 1 + k = (j + k) + 1 by omega]; simp only [shn, ih]
theorem sh_double (q : Nat) : sh (2 * q) = q := by
  unfold sh
  rw [show 2 * q / 2 = q by omega, show 2 * q % 2 = 0 by omega]; simp
def tab : List Nat := [0, 498536548, 997073096, 651767980, 1994146192, 1802195444, 1303535960, 1342533948, 3988292384, 4027552580, 3604390888, 3412177804, 2607071920, 2262029012, 2685067896, 3183342108]
theorem tab_eq : ∀ d, d < 16 → shn 4 d = tab.getD d 0 := by decide
theorem join16 (r : Nat) : r = 16 * (r / 16) ^^^ r % 16 := by
  apply Nat.eq_of_testBit_eq
  intro i
  rw [Nat.testBit_xor, show (16 : Nat) = 2 ^ 4 by rfl, Nat.testBit_mod_two_pow, Nat.testBit_two_pow_mul, Nat.testBit_div_two_pow]
  by_cases h : i < 4
  · have h' : ¬ 4 ≤ i := by omega
    simp [h, h']
  · have h' : 4 ≤ i := by omega
    simp [h, h']
theorem half (r : Nat) : r / 16 ^^^ tab.getD (r % 16) 0 = shn 4 r := by
  have h := congrArg (shn 4) (join16 r)
  rw [shn_xor, tab_eq _ (Nat.mod_lt _ (by decide))] at h
  rw [h]
  have e : shn 4 (16 * (r / 16)) = r / 16 := by
    rw [show 16 * (r / 16) = 2 * (2 * (2 * (2 * (r / 16)))) by omega]
    simp only [shn, sh_double]
  rw [e]
def upd (r : Nat) (bs : List Nat) : Nat := bs.foldl (fun r c => shn 8 (r ^^^ c)) r
def update (s : Nat) (bs : List Nat) : Nat := upd (s ^^^ 4294967295) bs ^^^ 4294967295
def sum (bs : List Nat) : Nat := update 0 bs
theorem upd_append (r : Nat) (a b : List Nat) : upd r (a ++ b) = upd (upd r a) b := by simp [upd, List.foldl_append]
theorem xor_lt32 (a b : Nat) (ha : a < 4294967296) (hb : b < 4294967296) : a ^^^ b < 4294967296 := Nat.xor_lt_two_pow (n := 32) ha hb
theorem upd_lt (bs : List Nat) (h : ∀ c ∈ bs, c < 256) : ∀ r, r < 4294967296 → upd r bs < 4294967296 := by
  induction bs with
  | nil => intro r hr; exact hr
  | cons c bs ih =>
    intro r hr
    simp only [upd, List.foldl_cons]
    exact ih (fun x hx => h x (by simp [hx])) _ (shn_lt _ _ (xor_lt32 _ _ hr (by have := h c (by simp); omega)))
theorem update_lt (s : Nat) (bs : List Nat) (hs : s < 4294967296) (h : ∀ c ∈ bs, c < 256) : update s bs < 4294967296 :=
  xor_lt32 _ _ (upd_lt bs h _ (xor_lt32 _ _ hs (by decide))) (by decide)
end Go.Proofs.YtdemoghlibnooaaGreatDoor.Crc
