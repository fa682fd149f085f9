import Derived.Test.YtbnohdgdadfjlaaGreatDoorNJ
/- Bits turned in a span of at most 32. -/
namespace Go.Proofs.YtbnohdgdadfjlaaGreatDoor
open Go.RowKit Go.Sort Orl Pk Crc
set_option linter.unusedVariables false
set_option linter.unusedSimpArgs false

theorem flip_yes (bs cs : List Nat) (A k mask c : Nat) (hl : cs.length = bs.length) (h8 : A + k < 8 * bs.length) (h32 : k < 32) (hbit : mask / 2 ^ k % 2 = 1) (hc : c = cs.getD ((A + k) / 8) 0)
    (hu : upd 4294967295 cs = upd 4294967295 bs ^^^ shn (8 * bs.length - A) (mask % 2 ^ k)) :
    upd 4294967295 (cs.set ((A + k) / 8) (c ^^^ 2 ^ ((A + k) % 8))) = upd 4294967295 bs ^^^ shn (8 * bs.length - A) (mask % 2 ^ (k + 1)) := by
  have h1 := upd_set cs ((A + k) / 8) 4294967295 (2 ^ ((A + k) % 8)) (by omega)
  rw [← hc] at h1
  have h2 := shn_bit bs.length A k h8 h32
  have h3 := low_step mask k
  rw [hbit, Nat.mul_one] at h3
  rw [h1, hl, h2, hu, Nat.xor_assoc, ← shn_xor, h3]
theorem low_no (mask k : Nat) (hbit : ¬ mask / 2 ^ k % 2 = 1) : mask % 2 ^ (k + 1) = mask % 2 ^ k := by
  have h3 := low_step mask k
  have h0 : mask / 2 ^ k % 2 = 0 := by omega
  rw [h0, Nat.mul_zero, Nat.xor_zero] at h3
  exact h3.symm
theorem low_yes (mask k : Nat) (hbit : mask / 2 ^ k % 2 = 1) : mask % 2 ^ (k + 1) ≠ 0 := by
  have h := Nat.mod_pow_succ (x := mask) (b := 2) (k := k)
  rw [hbit, Nat.mul_one] at h
  have := Nat.two_pow_pos k
  omega
theorem xor_same {a b c : Nat} (h : a ^^^ c = b ^^^ c) : a = b := by
  have := congrArg (fun x => x ^^^ c) h
  simpa [Nat.xor_assoc] using this
theorem sums_part (bs cs : List Nat) (n d : Nat) (hd : d < 4294967296) (hu : upd 4294967295 cs = upd 4294967295 bs ^^^ shn n d) : Crc.sum cs = Crc.sum bs ↔ d = 0 := by
  have e : ∀ l, Crc.sum l = upd 4294967295 l ^^^ 4294967295 := fun l => by unfold Crc.sum update; rw [Nat.zero_xor]
  rw [e, e]
  constructor
  · intro h
    have h1 := xor_same h
    rw [hu] at h1
    have h2 : shn n d = 0 := by
      have := congrArg (fun x => upd 4294967295 bs ^^^ x) h1
      simpa [← Nat.xor_assoc] using this
    exact shn_eq_zero n d hd h2
  · intro h
    rw [hu, h, shn_zero, Nat.xor_zero]
/-- eight bits of a byte, one turned -/
theorem xor8 (c t : Nat) (hc : c < 256) (ht : t < 8) : bits .xor .u8 (c : Int) ((2 ^ t : Nat) : Int) = ((c ^^^ 2 ^ t : Nat) : Int) := by
  have : (2 : Nat) ^ t < 256 := by
    have : (2 : Nat) ^ t ≤ 2 ^ 7 := Nat.pow_le_pow_right (by decide) (by omega)
    omega
  exact u8_xor_nat c _ hc this
theorem xor8_lt (c t : Nat) (hc : c < 256) (ht : t < 8) : c ^^^ 2 ^ t < 256 :=
  Nat.xor_lt_two_pow (n := 8) hc (Nat.pow_lt_pow_right (by decide) ht)
theorem set_lt (bs : List Nat) (j v : Nat) (h : ∀ c ∈ bs, c < 256) (hv : v < 256) : ∀ c ∈ bs.set j v, c < 256 := by
  intro c hc
  rcases List.mem_or_eq_of_mem_set hc with h1 | h1
  · exact h c h1
  · omega
theorem and1 (r : Nat) (hr : r < 4294967296) : bits .and .u32 (r : Int) 1 = ((r % 2 : Nat) : Int) := by
  have := u32_and_nat r 1 hr (by decide)
  rw [nat_mask1] at this
  exact this
theorem vals_set (bs : List Nat) (j v : Nat) : (vals bs).set j (.int .u8 (v : Nat)) = vals (bs.set j v) := by
  unfold vals
  rw [List.map_set]
theorem Owns.set {w : World} {g c : Nat} {bs : List Nat} (h : Owns w (some ⟨g, 0, none⟩) c bs) (j v : Nat) : Owns (w.setCell ⟨g, j, none⟩ (.int .u8 (v : Nat))) (some ⟨g, 0, none⟩) c (bs.set j v) := by
  have := (World.ownsRow.stored h j (.int .u8 (v : Nat))).1
  rw [vals_set] at this
  unfold Owns
  rw [List.length_set]
  exact this
theorem Owns.cellAt {w : World} {g c : Nat} {bs : List Nat} (h : Owns w (some ⟨g, 0, none⟩) c bs) (j : Nat) (hj : j < bs.length) : w.cell? ⟨g, j, none⟩ = some (.int .u8 (bs.getD j 0 : Nat)) := by
  rw [World.ownsRow.cellAt h j (by omega)]
  simp [vals, hj]
theorem Owns.free {w : World} {g c : Nat} {bs : List Nat} (h : Owns w (some ⟨g, 0, none⟩) c bs) (j : Nat) : w.frozen? ⟨g, j, none⟩ = false := World.ownsRow.frozenAt h j
theorem set_mid (a b c : List Nat) (j v : Nat) (hj : j < b.length) : (a ++ (b ++ c)).set (a.length + j) v = a ++ (b.set j v ++ c) := by
  rw [List.set_append_right _ _ (Nat.le_add_right _ _), Nat.add_sub_cancel_left, List.set_append_left _ _ hj]
theorem getD_mid (a b c : List Nat) (j : Nat) (hj : j < b.length) : (a ++ (b ++ c)).getD (a.length + j) 0 = b.getD j 0 := by
  simp only [List.getD_eq_getElem?_getD]
  rw [List.getElem?_append_right (by omega), Nat.add_sub_cancel_left, List.getElem?_append_left hj]
/-- the payload, so many bits of it turned -/
structure Fl (p : List Nat) (A mask k : Nat) (cs : List Nat) : Prop where
  len : cs.length = p.length
  byt : ∀ c ∈ cs, c < 256
  upd : Crc.upd 4294967295 cs = Crc.upd 4294967295 p ^^^ Crc.shn (8 * p.length - A) (mask % 2 ^ (min k (8 * p.length - A)))
  no : mask % 2 ^ (min k (8 * p.length - A)) = 0 → cs = p
theorem Fl.skip {p : List Nat} {A mask k : Nat} {cs : List Nat} (h : Fl p A mask k cs) (hb : ¬ mask / 2 ^ k % 2 = 1 ∨ 8 * p.length ≤ A + k) : Fl p A mask (k + 1) cs ∧ mask % 2 ^ (min (k + 1) (8 * p.length - A)) = mask % 2 ^ (min k (8 * p.length - A)) := by
  have e : mask % 2 ^ (min (k + 1) (8 * p.length - A)) = mask % 2 ^ (min k (8 * p.length - A)) := by
    by_cases hl : 8 * p.length ≤ A + k
    · rw [Nat.min_eq_right (by omega), Nat.min_eq_right (by omega)]
    · rw [Nat.min_eq_left (by omega), Nat.min_eq_left (by omega)]
      exact low_no mask k (by rcases hb with h | h; exact h; exact absurd h hl)
  refine ⟨⟨h.len, h.byt, by rw [e]; exact h.upd, by rw [e]; exact h.no⟩, e⟩
theorem Fl.turn {p : List Nat} {A mask k : Nat} {cs : List Nat} (h : Fl p A mask k cs) (hb : mask / 2 ^ k % 2 = 1) (hl : A + k < 8 * p.length) (hk : k < 32) : Fl p A mask (k + 1) (cs.set ((A + k) / 8) (cs.getD ((A + k) / 8) 0 ^^^ 2 ^ ((A + k) % 8))) ∧ mask % 2 ^ (min (k + 1) (8 * p.length - A)) ≠ 0 := by
  have e1 : min k (8 * p.length - A) = k := Nat.min_eq_left (by omega)
  have e2 : min (k + 1) (8 * p.length - A) = k + 1 := Nat.min_eq_left (by omega)
  have hu := h.upd
  rw [e1] at hu
  have hz : mask % 2 ^ (min (k + 1) (8 * p.length - A)) ≠ 0 := by rw [e2]; exact low_yes mask k hb
  refine ⟨⟨by rw [List.length_set]; exact h.len, set_lt _ _ _ h.byt (xor8_lt _ _ (getD_lt' cs h.byt _ (by have := h.len; omega)) (Nat.mod_lt _ (by decide))), ?_, fun h => absurd h hz⟩, hz⟩
  rw [e2]
  exact flip_yes p cs A k mask _ h.len hl hk hb rfl hu
theorem fl0 (p : List Nat) (hp : ∀ c ∈ p, c < 256) (A m : Nat) : Fl p A m 0 p := ⟨rfl, hp, by simp [Nat.mod_one, Crc.shn_zero], fun _ => rfl⟩
/-- a part of the bytes, turned: what the checksum says -/
def dOf (p : List Nat) (A m : Nat) : Nat := m % 2 ^ (min 32 (8 * p.length - A))
theorem dOf_lt (p : List Nat) (A m : Nat) : dOf p A m < 4294967296 := by
  have h1 : dOf p A m < 2 ^ (min 32 (8 * p.length - A)) := Nat.mod_lt _ (Nat.two_pow_pos _)
  have h2 : 2 ^ (min 32 (8 * p.length - A)) ≤ 2 ^ 32 := Nat.pow_le_pow_right (by decide) (Nat.min_le_left _ _)
  omega
theorem Fl.end {p : List Nat} {A m q : Nat} {cs : List Nat} (h : Fl p A m q cs) (hq : q ≤ 32) (he : q = 32 ∨ 8 * p.length ≤ A + q) : Fl p A m 32 cs ∧ m % 2 ^ (min q (8 * p.length - A)) = dOf p A m := by
  have e : min q (8 * p.length - A) = min 32 (8 * p.length - A) := by omega
  refine ⟨⟨h.len, h.byt, by rw [← e]; exact h.upd, by rw [← e]; exact h.no⟩, by rw [e]; rfl⟩
theorem Fl.sum {p : List Nat} {A m : Nat} {cs : List Nat} (h : Fl p A m 32 cs) : Crc.sum cs = Crc.sum p ↔ dOf p A m = 0 := sums_part p cs _ _ (dOf_lt p A m) h.upd
theorem tail_val (x ss : List Nat) (h : ss.length = 4) : bodyO (x ++ ss) = x ∧ (rnum 4 (tailO (x ++ ss), 0)).1 = val ss ∧ 4 ≤ (x ++ ss).length := by
  have hl : (x ++ ss).length - 4 = x.length := by rw [List.length_append]; omega
  refine ⟨?_, ?_, by rw [List.length_append]; omega⟩
  · unfold bodyO; rw [hl]; exact List.take_left
  · have e : tailO (x ++ ss) = ss := by unfold tailO; rw [hl]; exact List.drop_left
    rw [e]
    unfold rnum
    rw [if_neg (by simp), if_neg (by simp only; omega)]
    simp only
    rw [List.take_of_length_le (by omega)]
/-- ahead of the checksum -/
theorem Fl.ahead {x : List Nat} (hx : ∀ c ∈ x, c < 256) {A m : Nat} {cs : List Nat} (h : Fl x A m 32 cs) : sumOk (cs ++ num 4 (Crc.sum x)) = decide (dOf x A m = 0) := by
  obtain ⟨h1, h2, h3⟩ := tail_val cs (num 4 (Crc.sum x)) (num_length _ _)
  unfold sumOk
  rw [h1, h2, decide_eq_true h3, Bool.true_and, val_num, decide_eq_decide]
  have hlt : Crc.sum x < 256 ^ 4 := Crc.update_lt 0 _ (by decide) hx
  rw [Nat.mod_eq_of_lt hlt]
  exact ⟨fun e => h.sum.1 e.symm, fun e => (h.sum.2 e).symm⟩
/-- within it -/
theorem Fl.within {x : List Nat} (hx : ∀ c ∈ x, c < 256) {A m : Nat} {ss : List Nat} (h : Fl (num 4 (Crc.sum x)) A m 32 ss) : sumOk (x ++ ss) = decide (dOf (num 4 (Crc.sum x)) A m = 0) := by
  have hl : ss.length = 4 := by rw [h.len, num_length]
  obtain ⟨h1, h2, h3⟩ := tail_val x ss hl
  unfold sumOk
  rw [h1, h2, decide_eq_true h3, Bool.true_and, decide_eq_decide]
  have hlt : Crc.sum x < 256 ^ 4 := Crc.update_lt 0 _ (by decide) hx
  constructor
  · intro e
    refine h.sum.1 ?_
    have h4 := num_val 4 ss hl h.byt
    rw [e] at h4
    rw [h4]
  · intro e
    have h5 := h.no e
    rw [h5, val_num, Nat.mod_eq_of_lt hlt]
end Go.Proofs.YtbnohdgdadfjlaaGreatDoor
