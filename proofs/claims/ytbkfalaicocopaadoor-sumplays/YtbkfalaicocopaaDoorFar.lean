import Derived.Test.YtbkfalaicocopaaDoorSteps
import Derived.Test.YtbkfalaicocopaaDoorLen
namespace Go.Proofs.YtbkfalaicocopaaDoor
open Go.RowKit
open Crc

theorem and1_i64 (r : Nat) (hr : r < 9223372036854775808) : bits .and .i64 (r : Int) 1 = ((r % 2 : Nat) : Int) := by
  have e : (r : Int) = ((r : Nat) : Int) := rfl
  have key : (BitVec.ofInt 64 (r : Int) &&& BitVec.ofInt 64 1).toNat = r % 2 := by
    rw [BitVec.toNat_and, ofInt_u64 r (by omega), show (BitVec.ofInt 64 1).toNat = 1 by decide, nat_mask1]
  show IntKind.i64.wrap ((BitVec.ofInt 64 (r : Int) &&& BitVec.ofInt 64 1).toNat : Nat) = ((r % 2 : Nat) : Int)
  rw [key, IntKind.wrap_i64]
  omega
theorem halve (n l k : Nat) (h : k < l) : n / 2 ^ (l - k) = n / 2 ^ (l - 1 - k) / 2 := by
  rw [show l - k = l - 1 - k + 1 by omega, Nat.pow_succ, Nat.div_div_eq_div_mul]
theorem bit_case (n l k : Nat) (hn : n < 9223372036854775808) {b : Bool} (h : (bits BinOp.and IntKind.i64 ((n : Int) / 2 ^ (l - 1 - k)) 1 == 1) = b) : n / 2 ^ (l - 1 - k) % 2 = if b then 1 else 0 := by
  have e : (n : Int) / 2 ^ (l - 1 - k) = ((n / 2 ^ (l - 1 - k) : Nat) : Int) := by simp
  rw [e, and1_i64 _ (Nat.lt_of_le_of_lt (Nat.div_le_self _ _) hn)] at h
  cases b <;> simp at h ⊢ <;> omega
theorem step_yes (n l k x : Nat) (h : k < l) (hx : x = shn (8 * (n / 2 ^ (l - k))) 2147483648) (hb : n / 2 ^ (l - 1 - k) % 2 = 1) : shn 8 (prod x x) = shn (8 * (n / 2 ^ (l - (k + 1)))) 2147483648 := by
  rw [hx, prod_square, ← shn_add, halve n l k h, show l - (k + 1) = l - 1 - k by omega]
  congr 1
  omega
theorem step_no (n l k x : Nat) (h : k < l) (hx : x = shn (8 * (n / 2 ^ (l - k))) 2147483648) (hb : n / 2 ^ (l - 1 - k) % 2 = 0) : prod x x = shn (8 * (n / 2 ^ (l - (k + 1)))) 2147483648 := by
  rw [hx, prod_square, halve n l k h, show l - (k + 1) = l - 1 - k by omega]
  congr 1
  omega
theorem byteSteps_any (n : Nat) (hn : n < 9223372036854775808) (w : World) (ht : TabIn w) :
    Calls Tryd.prog 22 #[.int .i64 (n : Int)] w fun e w' => e = .returned (.int .u32 (shn (8 * n) 2147483648 : Nat)) ∧ w' = w := by
  go_enter Tryd.func22, Tryd.ntmps22
  go_wp2_with (go_at_call 27; refine (len64_any _ (by omega) (by omega) _).mono ?_; rintro e w' ⟨⟨l, hl, hnl, rfl⟩, rfl⟩)
  go_loop [3, 10] (fun p i => ∃ k : Nat, k ≤ l ∧ i = .int .i64 k ∧ p = .int .u32 (shn (8 * (n / 2 ^ (l - k))) 2147483648 : Nat)) (fun _ i => l - (intOf i).toNat)
  case atStart =>
    have hz : n / 2 ^ l = 0 := Nat.div_eq_of_lt (by exact_mod_cast hnl)
    exact ⟨0, by omega, rfl, by simp [hz, shn]⟩
  case round =>
    obtain ⟨k, hk, rfl, rfl⟩ := hrel
    obtain ⟨x, hx⟩ : ∃ x, x = shn (8 * (n / 2 ^ (l - k))) 2147483648 := ⟨_, rfl⟩
    have hlt := shn_lt (8 * (n / 2 ^ (l - k))) 2147483648 (by decide)
    rw [← hx] at hlt ⊢
    have HX : Hid (x = shn (8 * (n / 2 ^ (l - k))) 2147483648) := hx
    clear hx
    by_cases h2 : k < l
    · have hpl := prod_lt x x hlt
      go_wp2_with (first | (go_at_call 21; refine (product_any _ _ hlt hlt _).mono ?_; rintro e w' ⟨rfl, rfl⟩) | (go_at_call 23; refine (byteStep_any _ hpl _ ht).mono ?_; rintro e w' ⟨rfl, rfl⟩))
      · have hb := bit_case n l k hn (by assumption)
        go_round
        case rel => exact ⟨k + 1, by omega, by go_num, by rw [step_yes n l k x h2 HX.out hb]⟩
        case measure => simp [intOf]; omega
      · have hb := bit_case n l k hn (by assumption)
        go_round
        case rel => exact ⟨k + 1, by omega, by go_num, by rw [step_no n l k x h2 HX.out hb]⟩
        case measure => simp [intOf]; omega
    · go_wp2_with fail
      go_ret
      obtain rfl : k = l := by omega
      exact ⟨by rw [HX.out]; simp, rfl⟩
end Go.Proofs.YtbkfalaicocopaaDoor
