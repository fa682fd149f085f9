/- The plain mathematics of package sum: a register of 32 bits, shifted; bytes folded in; products of polynomials. Own work. -/
namespace Go.Proofs.YtdemoghlibnooaaGreatDoor.Crc

def sh (r : Nat) : Nat := r / 2 ^^^ (r % 2 * 3988292384)
def shn : Nat → Nat → Nat
  | 0, r => r
  | k + 1, r => sh (shn k r)

theorem xor_four (a b c d : Nat) : (a ^^^ b) ^^^ (c ^^^ d) = (a ^^^ c) ^^^ (b ^^^ d) := by
  rw [Nat.xor_assoc, Nat.xor_assoc, ← Nat.xor_assoc b, Nat.xor_comm b c, Nat.xor_assoc c]

theorem xor_mod2 (a b : Nat) : (a ^^^ b) % 2 = a % 2 ^^^ b % 2 := by
  have := Nat.xor_mod_two_pow (a := a) (b := b) (n := 1)
  simpa using this

theorem mul_xor (a b c : Nat) (ha : a < 2) (hb : b < 2) : (a ^^^ b) * c = a * c ^^^ b * c := by
  have h1 : a = 0 ∨ a = 1 := by omega
  have h2 : b = 0 ∨ b = 1 := by omega
  rcases h1 with rfl | rfl <;> rcases h2 with rfl | rfl <;> simp

theorem sh_xor (a b : Nat) : sh (a ^^^ b) = sh a ^^^ sh b := by
  unfold sh
  rw [Nat.xor_div_two, xor_mod2, mul_xor _ _ _ (Nat.mod_lt _ (by decide)) (Nat.mod_lt _ (by decide)), xor_four]

theorem sh_zero : sh 0 = 0 := by decide

theorem sh_lt (r : Nat) (h : r < 4294967296) : sh r < 4294967296 := by
  unfold sh
  have : r % 2 * 3988292384 < 2 ^ 32 := by omega
  exact Nat.xor_lt_two_pow (n := 32) (by omega) this

theorem sh_eq_zero (r : Nat) (h : r < 4294967296) (e : sh r = 0) : r = 0 := by
  unfold sh at e
  have h2 : r / 2 = r % 2 * 3988292384 := by
    have := congrArg (fun x => x ^^^ (r % 2 * 3988292384)) e
    simpa [Nat.xor_assoc] using this
  omega

theorem shn_xor (k a b : Nat) : shn k (a ^^^ b) = shn k a ^^^ shn k b := by
  induction k with
  | zero => rfl
  | succ k ih => simp only [shn, ih, sh_xor]

theorem shn_zero (k : Nat) : shn k 0 = 0 := by
  induction k with
  | zero => rfl
  | succ k ih => simp only [shn, ih, sh_zero]

theorem shn_lt (k r : Nat) (h : r < 4294967296) : shn k r < 4294967296 := by
  induction k with
  | zero => exact h
  | succ k ih => exact sh_lt _ ih

theorem shn_add (j k r : Nat) : shn (j + k) r = shn j (shn k r) := by
  induction j with
  | zero => simp [shn]
  | succ j ih => rw [show j + 1 + k = (j + k) + 1 by omega]; simp only [shn, ih]

theorem shn_one (r : Nat) : shn 1 r = sh r := rfl

theorem shn_sh (k r : Nat) : shn k (sh r) = sh (shn k r) := by
  have h1 := shn_add k 1 r
  have h2 := shn_add 1 k r
  rw [Nat.add_comm] at h1
  rw [h1] at h2
  exact h2

theorem shn_eq_zero (k r : Nat) (h : r < 4294967296) (e : shn k r = 0) : r = 0 := by
  induction k with
  | zero => exact e
  | succ k ih => exact ih (sh_eq_zero _ (shn_lt k r h) e)

theorem sh_double (q : Nat) : sh (2 * q) = q := by
  unfold sh
  rw [show 2 * q / 2 = q by omega, show 2 * q % 2 = 0 by omega]; simp

/-- a bit that is not yet out -/
theorem shn_pow (k : Nat) : ∀ j, shn k (2 ^ (k + j)) = 2 ^ j := by
  induction k with
  | zero => intro j; simp [shn]
  | succ k ih =>
    intro j
    have h := ih (j + 1)
    rw [show k + (j + 1) = k + 1 + j by omega] at h
    simp only [shn, h]
    rw [Nat.pow_succ, Nat.mul_comm, sh_double]

theorem mul_bit_shn (k b x : Nat) (hb : b < 2) : shn k (b * x) = b * shn k x := by
  have h1 : b = 0 ∨ b = 1 := by omega
  rcases h1 with rfl | rfl <;> simp [shn_zero]

/-! ### the half-byte table -/
def tab : List Nat := [0, 498536548, 997073096, 651767980, 1994146192, 1802195444, 1303535960, 1342533948, 3988292384, 4027552580, 3604390888, 3412177804, 2607071920, 2262029012, 2685067896, 3183342108]

theorem tab_eq : ∀ d, d < 16 → shn 4 d = tab.getD d 0 := by decide

theorem join16 (r : Nat) : r = 16 * (r / 16) ^^^ r % 16 := by
  apply Nat.eq_of_testBit_eq
  intro i
  rw [Nat.testBit_xor, show (16 : Nat) = 2 ^ 4 by rfl, Nat.testBit_mod_two_pow, Nat.testBit_two_pow_mul, Nat.testBit_div_two_pow]
  by_cases h : i < 4
  · have h' : ¬ 4 ≤ i := by omega
    simp [h, h']
  · have h' : 4 ≤ i := by omega
    simp [h, h']

theorem half (r : Nat) : r / 16 ^^^ tab.getD (r % 16) 0 = shn 4 r := by
  have h := congrArg (shn 4) (join16 r)
  rw [shn_xor, tab_eq _ (Nat.mod_lt _ (by decide))] at h
  rw [h]
  have e : shn 4 (16 * (r / 16)) = r / 16 := by
    rw [show 16 * (r / 16) = 2 * (2 * (2 * (2 * (r / 16)))) by omega]
    simp only [shn, sh_double]
  rw [e]

/-! ### the product -/
def pr (a b : Nat) : Nat → Nat
  | 0 => 0
  | i + 1 => pr a b i ^^^ shn i b * (a / 2 ^ (31 - i) % 2)
def prod (a b : Nat) : Nat := pr a b 32

theorem bit_lt (a k : Nat) : a / 2 ^ k % 2 < 2 := Nat.mod_lt _ (by decide)

theorem bit_xor (a b k : Nat) : (a ^^^ b) / 2 ^ k % 2 = a / 2 ^ k % 2 ^^^ b / 2 ^ k % 2 := by
  rw [← Nat.shiftRight_eq_div_pow, Nat.shiftRight_xor_distrib, xor_mod2, Nat.shiftRight_eq_div_pow, Nat.shiftRight_eq_div_pow]

theorem mul_xor_l (a b c : Nat) (h : c < 2) : (a ^^^ b) * c = a * c ^^^ b * c := by
  have h1 : c = 0 ∨ c = 1 := by omega
  rcases h1 with rfl | rfl <;> simp

theorem pr_right_xor (a b c : Nat) (i : Nat) : pr a (b ^^^ c) i = pr a b i ^^^ pr a c i := by
  induction i with
  | zero => simp [pr]
  | succ i ih => simp only [pr, ih, shn_xor]; rw [mul_xor_l _ _ _ (bit_lt _ _), xor_four]

theorem sh_mul_bit (x b : Nat) (hb : b < 2) : sh (x * b) = sh x * b := by
  have h1 : b = 0 ∨ b = 1 := by omega
  rcases h1 with rfl | rfl <;> simp [sh_zero]

theorem pr_right_sh (a b i : Nat) : pr a (sh b) i = sh (pr a b i) := by
  induction i with
  | zero => simp [pr, sh_zero]
  | succ i ih => simp only [pr, ih, sh_xor, shn_sh]; rw [sh_mul_bit _ _ (bit_lt _ _)]

theorem prod_shn (a b k : Nat) : prod a (shn k b) = shn k (prod a b) := by
  induction k with
  | zero => rfl
  | succ k ih => simp only [shn]; unfold prod at *; rw [pr_right_sh, ih]

theorem prod_mul_bit (a x b : Nat) (hb : b < 2) : prod a (x * b) = prod a x * b := by
  have h1 : b = 0 ∨ b = 1 := by omega
  rcases h1 with rfl | rfl
  · have : prod a 0 = 0 := by
      have := pr_right_xor a 0 0 32
      simp only [Nat.xor_self] at this
      exact this
    simp [this]
  · simp

theorem prod_xor (a b c : Nat) : prod a (b ^^^ c) = prod a b ^^^ prod a c := pr_right_xor a b c 32

theorem prod_zero (a : Nat) : prod a 0 = 0 := by
  have := prod_mul_bit a 0 0 (by decide)
  simpa using this

theorem prod_pr (p a c i : Nat) : prod p (pr a c i) = pr a (prod p c) i := by
  induction i with
  | zero => simp [pr, prod_zero]
  | succ i ih => simp only [pr]; rw [prod_xor, ih, prod_mul_bit _ _ _ (bit_lt _ _), prod_shn]

theorem join2 (q : Nat) : 2 * (q / 2) ^^^ q % 2 = q := by
  apply Nat.eq_of_testBit_eq
  intro i
  rw [Nat.testBit_xor, show (2 : Nat) = 2 ^ 1 by rfl, Nat.testBit_mod_two_pow, Nat.testBit_two_pow_mul, Nat.testBit_div_two_pow]
  by_cases h : i < 1
  · have h' : ¬ 1 ≤ i := by omega
    simp [h, h']
  · have h' : 1 ≤ i := by omega
    simp [h, h']

theorem top_step (a m : Nat) : a / 2 ^ (m + 1) * 2 ^ (m + 1) ^^^ 2 ^ m * (a / 2 ^ m % 2) = a / 2 ^ m * 2 ^ m := by
  have e1 : a / 2 ^ (m + 1) = a / 2 ^ m / 2 := by rw [Nat.pow_succ, Nat.div_div_eq_div_mul]
  have e2 : a / 2 ^ m / 2 * 2 ^ (m + 1) = (2 * (a / 2 ^ m / 2)) <<< m := by
    rw [Nat.shiftLeft_eq, Nat.pow_succ, Nat.mul_comm 2, Nat.mul_assoc, Nat.mul_comm 2]
  have e3 : 2 ^ m * (a / 2 ^ m % 2) = (a / 2 ^ m % 2) <<< m := by rw [Nat.shiftLeft_eq, Nat.mul_comm]
  rw [e1, e2, e3, ← Nat.shiftLeft_xor_distrib, join2, Nat.shiftLeft_eq]

theorem shn_top (i : Nat) (h : i < 32) : shn i 2147483648 = 2 ^ (31 - i) := by
  have := shn_pow i (31 - i)
  rwa [show i + (31 - i) = 31 by omega] at this

theorem pr_one (a i : Nat) (h : i ≤ 32) (ha : a < 4294967296) : pr a 2147483648 i = a / 2 ^ (32 - i) * 2 ^ (32 - i) := by
  induction i with
  | zero => simp only [pr]; rw [Nat.div_eq_of_lt (by omega), Nat.zero_mul]
  | succ i ih =>
    have t := top_step a (31 - i)
    rw [show 31 - i + 1 = 32 - i by omega] at t
    simp only [pr]
    rw [ih (by omega), shn_top i (by omega), t, show 32 - (i + 1) = 31 - i by omega]

theorem prod_one (a : Nat) (ha : a < 4294967296) : prod a 2147483648 = a := by
  have := pr_one a 32 (Nat.le_refl _) ha
  simpa [prod] using this

theorem prod_comm (a b : Nat) (ha : a < 4294967296) (hb : b < 4294967296) : prod a b = prod b a := by
  have h1 := prod_pr a b 2147483648 32
  rw [prod_one a ha] at h1
  have h2 : pr b 2147483648 32 = b := prod_one b hb
  rw [h2] at h1
  exact h1

/-- the factor that stands for k shifts -/
theorem prod_far (a k : Nat) (ha : a < 4294967296) : prod a (shn k 2147483648) = shn k a := by
  rw [prod_shn, prod_one a ha]

theorem prod_far' (a k : Nat) (ha : a < 4294967296) : prod (shn k 2147483648) a = shn k a := by
  rw [prod_comm _ _ (shn_lt _ _ (by decide)) ha, prod_far a k ha]

theorem prod_square (k : Nat) : prod (shn k 2147483648) (shn k 2147483648) = shn (2 * k) 2147483648 := by
  rw [prod_far _ _ (shn_lt _ _ (by decide)), ← shn_add, show k + k = 2 * k by omega]

theorem pr_lt (a b i : Nat) (hb : b < 4294967296) : pr a b i < 4294967296 := by
  induction i with
  | zero => simp [pr]
  | succ i ih =>
    have h := shn_lt i b hb
    have h2 : shn i b * (a / 2 ^ (31 - i) % 2) < 2 ^ 32 := by
      have := bit_lt a (31 - i)
      have h1 : a / 2 ^ (31 - i) % 2 = 0 ∨ a / 2 ^ (31 - i) % 2 = 1 := by omega
      rcases h1 with e | e <;> rw [e] <;> omega
    exact Nat.xor_lt_two_pow (n := 32) ih h2

theorem prod_lt (a b : Nat) (hb : b < 4294967296) : prod a b < 4294967296 := pr_lt a b 32 hb

/-! ### bytes folded in -/
def upd (r : Nat) (bs : List Nat) : Nat := bs.foldl (fun r c => shn 8 (r ^^^ c)) r
def update (s : Nat) (bs : List Nat) : Nat := upd (s ^^^ 4294967295) bs ^^^ 4294967295
def sum (bs : List Nat) : Nat := update 0 bs
def join (a b n : Nat) : Nat := shn (8 * n) a ^^^ b

theorem upd_append (r : Nat) (a b : List Nat) : upd r (a ++ b) = upd (upd r a) b := by simp [upd, List.foldl_append]

theorem upd_xor (bs : List Nat) : ∀ (r d : Nat), upd (r ^^^ d) bs = upd r bs ^^^ shn (8 * bs.length) d := by
  induction bs with
  | nil => intro r d; simp [upd, shn]
  | cons c bs ih =>
    intro r d
    have e : upd (r ^^^ d) (c :: bs) = upd (shn 8 (r ^^^ c) ^^^ shn 8 d) bs := by
      simp only [upd, List.foldl_cons]
      rw [← shn_xor, Nat.xor_assoc, Nat.xor_comm d c, ← Nat.xor_assoc]
    rw [e, ih]
    simp only [upd, List.foldl_cons, List.length_cons]
    rw [show 8 * (bs.length + 1) = 8 * bs.length + 8 by omega, shn_add]

theorem xor_lt32 (a b : Nat) (ha : a < 4294967296) (hb : b < 4294967296) : a ^^^ b < 4294967296 := Nat.xor_lt_two_pow (n := 32) ha hb

theorem upd_lt (bs : List Nat) (h : ∀ c ∈ bs, c < 256) : ∀ r, r < 4294967296 → upd r bs < 4294967296 := by
  induction bs with
  | nil => intro r hr; exact hr
  | cons c bs ih =>
    intro r hr
    simp only [upd, List.foldl_cons]
    exact ih (fun x hx => h x (by simp [hx])) _ (shn_lt _ _ (xor_lt32 _ _ hr (by have := h c (by simp); omega)))

theorem update_lt (s : Nat) (bs : List Nat) (hs : s < 4294967296) (h : ∀ c ∈ bs, c < 256) : update s bs < 4294967296 :=
  xor_lt32 _ _ (upd_lt bs h _ (xor_lt32 _ _ hs (by decide))) (by decide)

theorem join_lt (a b n : Nat) (ha : a < 4294967296) (hb : b < 4294967296) : join a b n < 4294967296 :=
  xor_lt32 _ _ (shn_lt _ _ ha) hb

theorem xor_cancel (a b : Nat) : a ^^^ b ^^^ b = a := by rw [Nat.xor_assoc, Nat.xor_self, Nat.xor_zero]

theorem update_append (s : Nat) (a b : List Nat) : update s (a ++ b) = update (update s a) b := by
  unfold update
  rw [upd_append, xor_cancel]

theorem sum_append (a b : List Nat) : sum (a ++ b) = update (sum a) b := update_append 0 a b

theorem update_join (s : Nat) (b : List Nat) : update s b = join s (sum b) b.length := by
  unfold sum update join
  rw [Nat.zero_xor, Nat.xor_comm s, upd_xor, Nat.xor_comm (upd _ _), Nat.xor_assoc]

theorem sum_join (a b : List Nat) : sum (a ++ b) = join (sum a) (sum b) b.length := by
  rw [sum_append, update_join]

theorem join_join (a b c n m : Nat) : join (join a b n) c m = join a (join b c m) (n + m) := by
  unfold join
  rw [shn_xor, ← shn_add, show 8 * m + 8 * n = 8 * (n + m) by omega, Nat.xor_assoc]

theorem join_zero (a b : Nat) : join a b 0 = a ^^^ b := by simp [join, shn]
theorem join_none (b n : Nat) : join 0 b n = b := by simp [join, shn_zero]

theorem sum_nil : sum [] = 0 := by decide

/-- one byte turned -/
theorem upd_set (bs : List Nat) : ∀ (j r d : Nat), j < bs.length →
    upd r (bs.set j (bs.getD j 0 ^^^ d)) = upd r bs ^^^ shn (8 * (bs.length - j)) d := by
  induction bs with
  | nil => intro j r d h; simp at h
  | cons c bs ih =>
    intro j r d h
    match j with
    | 0 =>
      have e : upd r ((c :: bs).set 0 ((c :: bs).getD 0 0 ^^^ d)) = upd (shn 8 (r ^^^ c) ^^^ shn 8 d) bs := by
        simp only [upd, List.set_cons_zero, List.getD_cons_zero, List.foldl_cons]
        rw [← shn_xor, Nat.xor_assoc]
      rw [e, upd_xor]
      simp only [upd, List.foldl_cons, List.length_cons]
      rw [show 8 * (bs.length + 1 - 0) = 8 * bs.length + 8 by omega, shn_add]
    | j + 1 =>
      have h' : j < bs.length := by simpa using h
      have e := ih j (shn 8 (r ^^^ c)) d h'
      simp only [upd, List.set_cons_succ, List.getD_cons_succ, List.foldl_cons, List.length_cons] at e ⊢
      rw [show bs.length + 1 - (j + 1) = bs.length - j by omega]
      exact e

/-- three of one length -/
theorem upd_three (as : List Nat) : ∀ (bs cs : List Nat) (p q r : Nat), as.length = bs.length → as.length = cs.length →
    upd (p ^^^ q ^^^ r) (List.zipWith (· ^^^ ·) (List.zipWith (· ^^^ ·) as bs) cs) = upd p as ^^^ upd q bs ^^^ upd r cs := by
  induction as with
  | nil =>
    intro bs cs p q r h1 h2
    obtain rfl : bs = [] := List.eq_nil_of_length_eq_zero h1.symm
    obtain rfl : cs = [] := List.eq_nil_of_length_eq_zero h2.symm
    simp [upd]
  | cons a as ih =>
    intro bs cs p q r h1 h2
    match bs, cs, h1, h2 with
    | b :: bs, c :: cs, h1, h2 =>
      have e := ih bs cs (shn 8 (p ^^^ a)) (shn 8 (q ^^^ b)) (shn 8 (r ^^^ c)) (by simpa using h1) (by simpa using h2)
      simp only [upd, List.zipWith_cons_cons, List.foldl_cons] at e ⊢
      rw [← e, ← shn_xor, ← shn_xor, xor_four p a q b, xor_four (p ^^^ q) (a ^^^ b) r c]

/-- a bit's way out, wherever it stands -/
theorem shn_bit (n at_ i : Nat) (h : at_ + i < 8 * n) (hi : i < 32) :
    shn (8 * (n - (at_ + i) / 8)) (2 ^ ((at_ + i) % 8)) = shn (8 * n - at_) (2 ^ i) := by
  have h1 := shn_pow ((at_ + i) % 8) 0
  have h2 := shn_pow i 0
  simp only [Nat.add_zero, Nat.pow_zero] at h1 h2
  have e1 : 8 * (n - (at_ + i) / 8) = (8 * n - (at_ + i)) + (at_ + i) % 8 := by omega
  have e2 : 8 * n - at_ = (8 * n - (at_ + i)) + i := by omega
  rw [e1, shn_add, h1, e2, shn_add, h2]

theorem low_step (m i : Nat) : m % 2 ^ i ^^^ 2 ^ i * (m / 2 ^ i % 2) = m % 2 ^ (i + 1) := by
  apply Nat.eq_of_testBit_eq
  intro j
  rw [Nat.testBit_xor, Nat.testBit_mod_two_pow, Nat.testBit_mod_two_pow, Nat.testBit_two_pow_mul]
  by_cases h1 : j < i
  · have : ¬ i ≤ j := by omega
    simp [h1, this, show j < i + 1 by omega]
  · by_cases h2 : j = i
    · subst h2
      simp [Nat.testBit, Nat.shiftRight_eq_div_pow]
    · have h3 : ¬ j < i + 1 := by omega
      have h4 : (m / 2 ^ i % 2).testBit (j - i) = false := by
        rw [show (2 : Nat) = 2 ^ 1 by rfl, Nat.testBit_mod_two_pow]
        simp; omega
      simp [h1, h3, h4]
end Go.Proofs.YtdemoghlibnooaaGreatDoor.Crc
