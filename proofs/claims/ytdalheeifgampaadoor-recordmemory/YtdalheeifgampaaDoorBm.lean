/- Plain mathematics: bits of a payload turned in a span of at most 32. -/
import Derived.Test.YtdalheeifgampaaDoorP1
import Derived.Test.YtdalheeifgampaaDoorCs
namespace Go.Proofs.YtdalheeifgampaaDoor
open Pk Crc
set_option linter.unusedVariables false
set_option linter.unusedSimpArgs false

theorem flip_yes (bs cs : List Nat) (A k mask c : Nat) (hl : cs.length = bs.length) (h8 : A + k < 8 * bs.length) (h32 : k < 32) (hbit : mask / 2 ^ k % 2 = 1) (hc : c = cs.getD ((A + k) / 8) 0)
    (hu : upd 4294967295 cs = upd 4294967295 bs ^^^ shn (8 * bs.length - A) (mask % 2 ^ k)) :
    upd 4294967295 (cs.set ((A + k) / 8) (c ^^^ 2 ^ ((A + k) % 8))) = upd 4294967295 bs ^^^ shn (8 * bs.length - A) (mask % 2 ^ (k + 1)) := by
  have h1 := upd_set cs ((A + k) / 8) 4294967295 (2 ^ ((A + k) % 8)) (by omega)
  rw [← hc] at h1
  have h2 := shn_bit bs.length A k h8 h32
  have h3 := low_step mask k
  rw [hbit, Nat.mul_one] at h3
  rw [h1, hl, h2, hu, Nat.xor_assoc, ← shn_xor, h3]
theorem low_no (mask k : Nat) (hbit : ¬ mask / 2 ^ k % 2 = 1) : mask % 2 ^ (k + 1) = mask % 2 ^ k := by
  have h3 := low_step mask k
  have h0 : mask / 2 ^ k % 2 = 0 := by omega
  rw [h0, Nat.mul_zero, Nat.xor_zero] at h3
  exact h3.symm
theorem low_yes (mask k : Nat) (hbit : mask / 2 ^ k % 2 = 1) : mask % 2 ^ (k + 1) ≠ 0 := by
  have h := Nat.mod_pow_succ (x := mask) (b := 2) (k := k)
  rw [hbit, Nat.mul_one] at h
  have := Nat.two_pow_pos k
  omega
theorem xor_same {a b c : Nat} (h : a ^^^ c = b ^^^ c) : a = b := by
  have := congrArg (fun x => x ^^^ c) h
  simpa [Nat.xor_assoc] using this
theorem sums_part (bs cs : List Nat) (n d : Nat) (hd : d < 4294967296) (hu : upd 4294967295 cs = upd 4294967295 bs ^^^ shn n d) : Crc.sum cs = Crc.sum bs ↔ d = 0 := by
  have e : ∀ l, Crc.sum l = upd 4294967295 l ^^^ 4294967295 := fun l => by unfold Crc.sum update; rw [Nat.zero_xor]
  rw [e, e]
  constructor
  · intro h
    have h1 := xor_same h
    rw [hu] at h1
    have h2 : shn n d = 0 := by
      have := congrArg (fun x => upd 4294967295 bs ^^^ x) h1
      simpa [← Nat.xor_assoc] using this
    exact shn_eq_zero n d hd h2
  · intro h
    rw [hu, h, shn_zero, Nat.xor_zero]
/-- the bits of a mask that lie ahead of a payload's end -/
def low (m k : Nat) : Nat := m % 2 ^ k
/-- eight bits of a byte, one turned -/
theorem xor8 (c t : Nat) (hc : c < 256) (ht : t < 8) : bits .xor .u8 (c : Int) ((2 ^ t : Nat) : Int) = ((c ^^^ 2 ^ t : Nat) : Int) := by
  have : (2 : Nat) ^ t < 256 := by
    have : (2 : Nat) ^ t ≤ 2 ^ 7 := Nat.pow_le_pow_right (by decide) (by omega)
    omega
  exact u8_xor_nat c _ hc this
theorem xor8_lt (c t : Nat) (hc : c < 256) (ht : t < 8) : c ^^^ 2 ^ t < 256 :=
  Nat.xor_lt_two_pow (n := 8) hc (Nat.pow_lt_pow_right (by decide) ht)
theorem set_lt (bs : List Nat) (j v : Nat) (h : ∀ c ∈ bs, c < 256) (hv : v < 256) : ∀ c ∈ bs.set j v, c < 256 := by
  intro c hc
  rcases List.mem_or_eq_of_mem_set hc with h1 | h1
  · exact h c h1
  · omega
theorem and1 (r : Nat) (hr : r < 4294967296) : bits .and .u32 (r : Int) 1 = ((r % 2 : Nat) : Int) := by
  have := u32_and_nat r 1 hr (by decide)
  rw [nat_mask1] at this
  exact this
/-- a record's bytes with its payload turned: what Parse tells -/
theorem parse_turned (r : Rec) (h : may r = true) (hi : r.id < 18446744073709551616) (hl : (body r).length ≤ 1048576) (cs : List Nat) (hcl : cs.length = (body r).length) (hcs : Crc.sum cs ≠ Crc.sum (body r)) : parse (num 4 (body r).length ++ (num 4 (Crc.sum (body r)) ++ cs)) = (c0, 0, 90) := by
  have hv : Pk.val ((num 4 (body r).length ++ (num 4 (Crc.sum (body r)) ++ cs)).take 4) = (body r).length := val_head _ _ (by omega)
  have hd : (num 4 (body r).length ++ (num 4 (Crc.sum (body r)) ++ cs)).drop 8 = cs := by
    rw [show 8 = 4 + 4 from rfl, ← List.drop_drop, drop_num, drop_num]
  have hp : pay (num 4 (body r).length ++ (num 4 (Crc.sum (body r)) ++ cs)) = cs := by
    unfold pay; rw [hv, hd, ← hcl, List.take_length]
  have hc : chk (num 4 (body r).length ++ (num 4 (Crc.sum (body r)) ++ cs)) = Crc.sum (body r) := by
    unfold chk; rw [drop_num]; exact val_head _ _ (sum_body r)
  have hn : (num 4 (body r).length ++ (num 4 (Crc.sum (body r)) ++ cs)).length = 8 + cs.length := by simp only [List.length_append, num_length]; omega
  unfold parse
  rw [hn, hv, if_neg (by omega), if_neg (by omega), if_neg (by omega), hp, hc, if_pos hcs]
/-- with another checksum -/
theorem parse_other (r : Rec) (hl : (body r).length ≤ 1048576) (ss : List Nat) (hsl : ss.length = 4) (hsv : Pk.val ss ≠ Crc.sum (body r)) : parse (num 4 (body r).length ++ (ss ++ body r)) = (c0, 0, 90) := by
  have hv : Pk.val ((num 4 (body r).length ++ (ss ++ body r)).take 4) = (body r).length := val_head _ _ (by omega)
  have hd : (num 4 (body r).length ++ (ss ++ body r)).drop 8 = body r := by
    rw [show 8 = 4 + 4 from rfl, ← List.drop_drop, drop_num, ← hsl, List.drop_left]
  have hp : pay (num 4 (body r).length ++ (ss ++ body r)) = body r := by
    unfold pay; rw [hv, hd, List.take_length]
  have hc : chk (num 4 (body r).length ++ (ss ++ body r)) = Pk.val ss := by
    unfold chk; rw [drop_num, ← hsl, List.take_left]
  have hn : (num 4 (body r).length ++ (ss ++ body r)).length = 8 + (body r).length := by simp only [List.length_append, num_length, hsl]; omega
  unfold parse
  rw [hn, hv, if_neg (by omega), if_neg (by omega), if_neg (by omega), hp, hc, if_pos (Ne.symm hsv)]
end Go.Proofs.YtdalheeifgampaaDoor
