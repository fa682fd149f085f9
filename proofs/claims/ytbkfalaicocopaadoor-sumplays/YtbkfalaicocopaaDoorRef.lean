import Derived.Test.YtbkfalaicocopaaDoorCalls
namespace Go.Proofs.YtbkfalaicocopaaDoor
open Go.RowKit
open Crc
set_option linter.unusedVariables false

theorem shift_any (r : Nat) (hr : r < 4294967296) (w : World) :
    Calls Tryd.prog 24 #[.int .u32 (r : Int)] w fun e w' => e = .returned (.int .u32 (sh r : Nat)) ∧ w' = w := by
  have e1 : (r : Int) / 2 = ((r / 2 : Nat) : Int) := by omega
  have hb := and1 r hr
  by_cases h : r % 2 = 1
  · rw [h] at hb
    have hb' : bits .and .u32 (r : Int) 1 = 1 := hb
    clear hb
    have hx : bits .xor .u32 ((r : Int) / 2) 3988292384 = (sh r : Nat) := by
      rw [e1]
      have := u32_xor_nat (r / 2) 3988292384 (by omega) (by decide)
      unfold sh
      rw [h, Nat.one_mul]
      exact this
    go_enter Tryd.func24, Tryd.ntmps24
    clear e1
    go_wp2
    go_ret
    exact ⟨rfl, rfl⟩
  · have h0 : r % 2 = 0 := by omega
    rw [h0] at hb
    have hb' : bits .and .u32 (r : Int) 1 = 0 := hb
    clear hb
    have hs : sh r = r / 2 := by unfold sh; rw [h0]; simp
    have HS : Hid (((r : Int) / 2) = (sh r : Nat)) := by show _ = _; rw [hs]; exact e1
    clear hs e1
    go_enter Tryd.func24, Tryd.ntmps24
    go_wp2
    go_ret
    exact ⟨ret_u32 HS.out, rfl⟩

theorem pr_next (a b k : Nat) : pr a b (k + 1) = pr a b k ^^^ shn k b * (a / 2 ^ (31 - k) % 2) := rfl

theorem times_any (a b : Nat) (ha : a < 4294967296) (hb : b < 4294967296) (w : World) :
    Calls Tryd.prog 25 #[.int .u32 (a : Int), .int .u32 (b : Int)] w fun e w' => e = .returned (.int .u32 (prod a b : Nat)) ∧ w' = w := by
  go_enter Tryd.func25, Tryd.ntmps25
  go_wp2_with fail
  go_loop [1, 5, 6] (fun x p i => ∃ k : Nat, k ≤ 32 ∧ i = .int .i64 (31 - (k : Int)) ∧ x = .int .u32 (shn k b : Nat) ∧ p = .int .u32 (pr a b k : Nat)) (fun _ _ i => (1 + intOf i).toNat)
  case atStart => exact ⟨0, by omega, rfl, rfl, rfl⟩
  case round =>
    obtain ⟨k, hk, rfl, rfl, rfl⟩ := hrel
    have hp1 := pr_next a b k
    obtain ⟨x, hx⟩ : ∃ x, x = shn k b := ⟨_, rfl⟩
    obtain ⟨p, hp⟩ : ∃ p, p = pr a b k := ⟨_, rfl⟩
    have hxl := shn_lt k b hb
    have hpl := pr_lt a b k hb
    rw [← hx] at hxl hp1 ⊢
    rw [← hp] at hpl hp1 ⊢
    have HX : Hid (x = shn k b) := hx
    have HP : Hid (p = pr a b k) := hp
    have HP1 : Hid (pr a b (k + 1) = p ^^^ x * (a / 2 ^ (31 - k) % 2)) := hp1
    clear hx hp hp1
    by_cases h2 : k < 32
    · have es : ((31 : Int) - (k : Int)) = ((31 - k : Nat) : Int) := by omega
      have hba := and1 (a / 2 ^ (31 - k)) (Nat.lt_of_le_of_lt (Nat.div_le_self _ _) ha)
      have ed : (a : Int) / 2 ^ (31 - k) = ((a / 2 ^ (31 - k) : Nat) : Int) := by simp
      rw [← ed] at hba
      clear ed
      have hxx : bits .xor .u32 (p : Int) (x : Int) = ((p ^^^ x : Nat) : Int) := u32_xor_nat p x hpl hxl
      rw [es]
      by_cases hbit : a / 2 ^ (31 - k) % 2 = 1
      · have HB : Hid (a / 2 ^ (31 - k) % 2 = 1) := hbit
        rw [hbit] at hba
        have hb1 : bits .and .u32 ((a : Int) / 2 ^ (31 - k)) 1 = 1 := hba
        clear hba hbit es
        go_wp2_with (go_at_call 24; refine (shift_any _ hxl _).mono ?_; rintro e w' ⟨rfl, rfl⟩)
        go_round
        case rel => exact ⟨k + 1, by omega, by congr 1; omega, by rw [HX.out]; rfl, by rw [HP1.out, HB.out, Nat.mul_one]⟩
        case measure => simp [intOf]; omega
      · have h0 : a / 2 ^ (31 - k) % 2 = 0 := by omega
        have HB : Hid (a / 2 ^ (31 - k) % 2 = 0) := h0
        rw [h0] at hba
        have hb1 : bits .and .u32 ((a : Int) / 2 ^ (31 - k)) 1 = 0 := hba
        clear hba hbit h0 es
        go_wp2_with (go_at_call 24; refine (shift_any _ hxl _).mono ?_; rintro e w' ⟨rfl, rfl⟩)
        go_round
        case rel => exact ⟨k + 1, by omega, by congr 1; omega, by rw [HX.out]; rfl, by rw [HP1.out, HB.out, Nat.mul_zero, Nat.xor_zero]⟩
        case measure => simp [intOf]; omega
    · obtain rfl : k = 32 := by omega
      go_wp2_with fail
      go_ret
      exact ⟨by rw [HP.out]; rfl, rfl⟩

theorem mod_next (n k : Nat) : n % 2 ^ (k + 1) = n % 2 ^ k + 2 ^ k * (n / 2 ^ k % 2) := Nat.mod_pow_succ
theorem div_next (n k : Nat) : n / 2 ^ (k + 1) = n / 2 ^ k / 2 := by rw [Nat.pow_succ, Nat.div_div_eq_div_mul]

set_option maxRecDepth 10000 in
theorem refJoin_any (a b : Nat) (n : Int) (ha : a < 4294967296) (hb : b < 4294967296) (hn : n < 9223372036854775808) (hn' : -9223372036854775808 ≤ n) (w : World) :
    Calls Tryd.prog 18 #[.int .u32 (a : Int), .int .u32 (b : Int), .int .i64 n] w fun e w' => e = .returned (.int .u32 (join a b n.toNat : Nat)) ∧ w' = w := by
  by_cases h0 : 0 ≤ n
  · obtain ⟨m, rfl⟩ : ∃ m : Nat, n = m := ⟨n.toNat, by omega⟩
    go_enter Tryd.func18, Tryd.ntmps18
    go_wp2_with fail
    go_loop [0, 2, 7] (fun x i p => ∃ k : Nat, i = .int .i64 (m / 2 ^ k : Nat) ∧ x = .int .u32 (shn (8 * (m % 2 ^ k)) a : Nat) ∧ p = .int .u32 (shn (8 * 2 ^ k) 2147483648 : Nat)) (fun _ i _ => (intOf i).toNat)
    case atStart => exact ⟨0, by simp, by simp [Nat.mod_one, shn], by rw [show shn (8 * 2 ^ 0) 2147483648 = 8388608 by decide]; rfl⟩
    case round =>
      obtain ⟨k, rfl, rfl, rfl⟩ := hrel
      have m1 := mod_next m k
      have d1 := div_next m k
      obtain ⟨x, hx⟩ : ∃ x, x = shn (8 * (m % 2 ^ k)) a := ⟨_, rfl⟩
      obtain ⟨p, hp⟩ : ∃ p, p = shn (8 * 2 ^ k) 2147483648 := ⟨_, rfl⟩
      obtain ⟨q, hq⟩ : ∃ q, q = m / 2 ^ k := ⟨_, rfl⟩
      have hxl := shn_lt (8 * (m % 2 ^ k)) a ha
      have hpl := shn_lt (8 * 2 ^ k) 2147483648 (by decide)
      have hql : q ≤ m := by rw [hq]; exact Nat.div_le_self _ _
      rw [← hx] at hxl ⊢
      rw [← hp] at hpl ⊢
      rw [← hq] at m1 d1 ⊢
      have HX : Hid (x = shn (8 * (m % 2 ^ k)) a) := hx
      have HP : Hid (p = shn (8 * 2 ^ k) 2147483648) := hp
      have HQ : Hid (q = m / 2 ^ k) := hq
      have M1 : Hid (m % 2 ^ (k + 1) = m % 2 ^ k + 2 ^ k * (q % 2)) := m1
      have D1 : Hid (m / 2 ^ (k + 1) = q / 2) := d1
      have PP : Hid (prod p p = shn (8 * 2 ^ (k + 1)) 2147483648) := by
        show prod p p = _
        rw [hp, prod_square, Nat.pow_succ]; congr 1; omega
      have PX : Hid (prod p x = shn (8 * (m % 2 ^ k + 2 ^ k)) a) := by
        show prod p x = _
        rw [hp, prod_far' _ _ hxl, hx, ← shn_add]; congr 1; omega
      clear hx hp hq m1 d1
      by_cases hq0 : 0 < q
      · by_cases hodd : q % 2 = 1
        · have hT : ((q : Int) % 2 == 1) = true := by simp; omega
          have HO : Hid (q % 2 = 1) := hodd
          clear hodd
          go_wp2_with fail
          refine (times_any p x hpl hxl _).mono ?_
          rintro e w' ⟨rfl, rfl⟩
          go_wp2_with fail
          refine (times_any p p hpl hpl _).mono ?_
          rintro e w'' ⟨rfl, rfl⟩
          go_wp2_with fail
          go_round
          case rel => exact ⟨k + 1, by rw [D1.out]; congr 1, by rw [M1.out, HO.out, Nat.mul_one, PX.out], by rw [PP.out]⟩
          case measure => simp [intOf]; omega
        · have hT : ((q : Int) % 2 == 1) = false := by simp; omega
          have HO : Hid (q % 2 = 0) := by show q % 2 = 0; omega
          clear hodd
          go_wp2_with fail
          refine (times_any p p hpl hpl _).mono ?_
          rintro e w'' ⟨rfl, rfl⟩
          go_wp2_with fail
          go_round
          case rel => exact ⟨k + 1, by rw [D1.out]; congr 1, by rw [M1.out, HO.out, Nat.mul_zero, Nat.add_zero, HX.out], by rw [PP.out]⟩
          case measure => simp [intOf]; omega
      · obtain rfl : q = 0 := by omega
        have hxb : bits .xor .u32 (x : Int) (b : Int) = ((x ^^^ b : Nat) : Int) := u32_xor_nat x b hxl hb
        have hmk : m % 2 ^ k = m := by
          have h := Nat.div_add_mod m (2 ^ k)
          rw [← HQ.out, Nat.mul_zero, Nat.zero_add] at h
          exact h
        have HF : Hid (x ^^^ b = join a b m) := by
          show _ = _
          rw [HX.out, hmk]; rfl
        clear hmk
        go_wp2_with fail
        go_ret
        exact ⟨ret_u32 (by rw [HF.out]), rfl⟩
  · have e0 : n.toNat = 0 := by omega
    rw [e0, join_zero]
    have hxb : bits .xor .u32 (a : Int) (b : Int) = ((a ^^^ b : Nat) : Int) := u32_xor_nat a b ha hb
    go_enter Tryd.func18, Tryd.ntmps18
    go_wp2_with fail
    refine wp_loop_rounds 1 ?_
    rw [rounds_succ]
    go_wp2_with fail
    go_ret
    exact ⟨rfl, rfl⟩

theorem refUpdate_any (s : Nat) (a : Option Addr) (bs : List Nat) (cap : Nat) (hs : s < 4294967296) (w : World) (hr : Row w a bs) :
    Calls Tryd.prog 17 #[.int .u32 (s : Int), .slice a bs.length cap] w fun e w' => e = .returned (.int .u32 (update s bs : Nat)) ∧ w' = w := by
  obtain ⟨hby, hm, hcell⟩ := hr
  obtain ⟨n, hn⟩ : ∃ n, n = bs.length := ⟨_, rfl⟩
  rw [← hn] at hm hcell ⊢
  have HN : Hid (n = bs.length) := hn
  clear hn
  go_enter Tryd.func17, Tryd.ntmps17
  go_wp2_with fail
  go_loop [5, 6, 7] (fun r i _ => ∃ k : Nat, k ≤ n ∧ i = .int .i64 k ∧ r = .int .u32 (upd (s ^^^ 4294967295) (bs.take k) : Nat)) (fun _ i _ => n - (intOf i).toNat)
  case atStart => exact ⟨0, by omega, rfl, by rw [not_num s hs]; rfl⟩
  case round =>
    obtain ⟨k, hk, rfl, rfl⟩ := hrel
    have hrl := upd_lt (bs.take k) (fun c hc => hby c (List.mem_of_mem_take hc)) (s ^^^ 4294967295) (xor_lt32 _ _ hs (by decide))
    obtain ⟨r, hr⟩ : ∃ r, r = upd (s ^^^ 4294967295) (bs.take k) := ⟨_, rfl⟩
    rw [← hr] at hrl ⊢
    have HR : Hid (r = upd (s ^^^ 4294967295) (bs.take k)) := hr
    clear hr
    by_cases h2 : k < n
    · have hkb : k < bs.length := by have := HN.out; omega
      have hcl := getD_lt bs hby k hkb
      have hsn := upd_snoc (s ^^^ 4294967295) bs k hkb
      rcases hcell with h0 | ⟨b, off, rfl, hc⟩
      · rw [h0] at hkb; simp at hkb
      obtain ⟨c, hcc⟩ : ∃ c, c = bs.getD k 0 := ⟨_, rfl⟩
      have hck := hc k h2
      rw [← hcc] at hcl hsn hck
      have HS : Hid (upd (s ^^^ 4294967295) (bs.take (k + 1)) = shn 8 (upd (s ^^^ 4294967295) (bs.take k) ^^^ c)) := hsn
      have hmix := mix_num r c hrl hcl
      have hxl := xor_lt32 r c hrl (by omega)
      clear hsn hcc hc hby
      go_wp2_with fail
      go_loop [5, 7] (fun y i => ∃ q : Nat, q ≤ 8 ∧ i = .int .i64 q ∧ y = .int .u32 (shn q (r ^^^ c) : Nat)) (fun _ i => 8 - (intOf i).toNat)
      case atStart => exact ⟨0, by omega, rfl, rfl⟩
      case round =>
        obtain ⟨q, hq, rfl, rfl⟩ := hrel
        obtain ⟨y, hy⟩ : ∃ y, y = shn q (r ^^^ c) := ⟨_, rfl⟩
        have hyl := shn_lt q (r ^^^ c) hxl
        rw [← hy] at hyl ⊢
        have HY : Hid (y = shn q (r ^^^ c)) := hy
        clear hy
        by_cases hq8 : q < 8
        · go_wp2_with (go_at_call 24; refine (shift_any _ hyl _).mono ?_; rintro e w' ⟨rfl, rfl⟩)
          go_round
          case rel => exact ⟨q + 1, by omega, by go_num, by rw [HY.out]; rfl⟩
          case measure => simp [intOf]; omega
        · obtain rfl : q = 8 := by omega
          go_wp2_with fail
          go_round
          case rel => exact ⟨k + 1, by omega, by go_num, by rw [HS.out, HY.out, HR.out]⟩
          case measure => simp [intOf]; omega
    · go_wp2_with fail
      go_ret
      obtain rfl : k = n := by omega
      exact ⟨ret_u32 (by rw [not_num r hrl, HR.out, HN.out, List.take_length]; rfl), rfl⟩

theorem refSum_any (a : Option Addr) (bs : List Nat) (cap : Nat) (w : World) (hr : Row w a bs) :
    Calls Tryd.prog 16 #[.slice a bs.length cap] w fun e w' => e = .returned (.int .u32 (sum bs : Nat)) ∧ w' = w := by
  go_enter Tryd.func16, Tryd.ntmps16
  go_wp2_with (go_at_call 17; go_must (refine (refUpdate_any 0 a bs cap (by decide) _ hr).mono ?_); rintro e w' ⟨rfl, rfl⟩)
  go_ret
  exact ⟨rfl, rfl⟩

theorem refFeed_any (h : Nat) (s : ByteArray) (hh : h < 18446744073709551616) (w : World) (hs : s.size ≤ maxLen) :
    Calls Tryd.prog 20 #[.int .u64 (h : Int), .string s] w fun e w' => e = .returned (.int .u64 (fnv h (nats s) : Nat)) ∧ w' = w := by
  unfold maxLen at hs
  go_enter Tryd.func20, Tryd.ntmps20
  go_wp2_with fail
  go_loop [0, 5] (fun r i => ∃ k : Nat, k ≤ s.size ∧ i = .int .i64 k ∧ r = .int .u64 (fnv h ((nats s).take k) : Nat)) (fun _ i => s.size - (intOf i).toNat)
  case atStart => exact ⟨0, by omega, rfl, rfl⟩
  case round =>
    obtain ⟨k, hk, rfl, rfl⟩ := hrel
    have hrl := fnv_lt ((nats s).take k) h hh
    obtain ⟨r, hr⟩ : ∃ r, r = fnv h ((nats s).take k) := ⟨_, rfl⟩
    rw [← hr] at hrl ⊢
    have HR : Hid (r = fnv h ((nats s).take k)) := hr
    clear hr
    by_cases h2 : k < s.size
    · have HS : Hid (fnv h ((nats s).take (k + 1)) = fnvStep (fnv h ((nats s).take k)) s[k].toNat) := fnv_snoc h s k h2
      have hu : s[k].toNat < 256 := s[k].toNat_lt
      go_wp2
      go_round
      case rel => exact ⟨k + 1, by omega, by go_num, by rw [HS.out, feed_num r _ hrl hu, HR.out]⟩
      case measure => simp [intOf]; omega
    · go_wp2_with fail
      go_ret
      obtain rfl : k = s.size := by omega
      exact ⟨ret_u64 (by rw [HR.out, List.take_of_length_le (by simp [nats])]), rfl⟩
theorem refHash_any (s : ByteArray) (w : World) (hs : s.size ≤ maxLen) :
    Calls Tryd.prog 19 #[.string s] w fun e w' => e = .returned (.int .u64 (fnv 14695981039346656037 (nats s) : Nat)) ∧ w' = w := by
  go_enter Tryd.func19, Tryd.ntmps19
  go_wp2_with (go_at_call 20; go_must (refine (refFeed_any 14695981039346656037 s (by decide) _ hs).mono ?_); rintro e w' ⟨rfl, rfl⟩)
  go_ret
  exact ⟨rfl, rfl⟩
end Go.Proofs.YtbkfalaicocopaaDoor
