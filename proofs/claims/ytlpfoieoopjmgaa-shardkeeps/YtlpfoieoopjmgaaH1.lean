import Derived.Test.YtlpfoieoopjmgaaKin
namespace Go.Proofs.Ytlpfoieoopjmgaa
open Go.RowKit
set_option linter.unusedVariables false
set_option linter.unusedSimpArgs false

theorem ret_u64 {a b : Int} (h : a = b) : Ending.returned (.int .u64 a) = .returned (.int .u64 b) := by rw [h]
theorem ret_i64 {a b : Int} (h : a = b) : Ending.returned (.int .i64 a) = .returned (.int .i64 b) := by rw [h]
theorem bits_xor_nat64 (a b : Nat) (ha : a < 18446744073709551616) (hb : b < 18446744073709551616) : bits .xor .u64 (a : Int) (b : Int) = ((a ^^^ b : Nat) : Int) := by
  have := u64_xor_nat a b ha hb
  exact this
/-- FNV-1a -/
def fnvStep (h c : Nat) : Nat := (h ^^^ c) * 1099511628211 % 18446744073709551616
def fnv (h : Nat) (bs : List Nat) : Nat := bs.foldl fnvStep h
theorem fnvStep_lt (h c : Nat) : fnvStep h c < 18446744073709551616 := Nat.mod_lt _ (by decide)
theorem fnv_append (h : Nat) (a b : List Nat) : fnv h (a ++ b) = fnv (fnv h a) b := List.foldl_append
theorem fnv_one (h c : Nat) : fnv h [c] = fnvStep h c := by rw [fnv, List.foldl_cons, List.foldl_nil]
theorem fnv_lt (bs : List Nat) : ∀ h, h < 18446744073709551616 → fnv h bs < 18446744073709551616 := by
  induction bs with
  | nil => intro h hh; exact hh
  | cons c bs ih => intro h _; exact ih _ (fnvStep_lt _ _)
def nats (s : ByteArray) : List Nat := s.data.toList.map (·.toNat)
theorem fnv_snoc (h : Nat) (s : ByteArray) (k : Nat) (hk : k < s.size) : fnv h ((nats s).take (k + 1)) = fnvStep (fnv h ((nats s).take k)) s[k].toNat := by
  have hl : k < (nats s).length := by simpa [nats] using hk
  have e : (nats s)[k] = s[k].toNat := by simp [nats]; rfl
  rw [List.take_succ_eq_append_getElem hl, fnv_append, e, fnv_one]
theorem feed_num (g c : Nat) (hg : g < 18446744073709551616) (hc : c < 256) : IntKind.u64.wrap (bits .xor .u64 (g : Int) (c : Int) * 1099511628211) = (fnvStep g c : Nat) := by
  rw [bits_xor_nat64 g c hg (by omega), IntKind.wrap_u64]
  unfold fnvStep
  omega
theorem feed_any (h : Nat) (s : ByteArray) (hh : h < 18446744073709551616) (w : World) (hs : s.size ≤ maxLen) :
    Calls Try.prog 29 #[.int .u64 (h : Int), .string s] w fun e w' => e = .returned (.int .u64 (fnv h (nats s) : Nat)) ∧ w' = w := by
  unfold maxLen at hs
  go_enter Try.func29, Try.ntmps29
  go_wp2_with fail
  go_loop [0, 8] (fun r i => ∃ k : Nat, k ≤ s.size ∧ i = .int .i64 k ∧ r = .int .u64 (fnv h ((nats s).take k) : Nat)) (fun _ i => s.size - (intOf i).toNat)
  case atStart => exact ⟨0, by omega, rfl, rfl⟩
  case round =>
    obtain ⟨k, hk, rfl, rfl⟩ := hrel
    have hrl := fnv_lt ((nats s).take k) h hh
    obtain ⟨r, hr⟩ : ∃ r, r = fnv h ((nats s).take k) := ⟨_, rfl⟩
    rw [← hr] at hrl ⊢
    have HR : Hid (r = fnv h ((nats s).take k)) := hr
    clear hr
    by_cases h2 : k < s.size
    · have HS : Hid (fnv h ((nats s).take (k + 1)) = fnvStep (fnv h ((nats s).take k)) s[k].toNat) := fnv_snoc h s k h2
      have hu : s[k].toNat < 256 := s[k].toNat_lt
      go_wp2
      go_round
      case rel => exact ⟨k + 1, by omega, by go_num, by rw [HS.out, feed_num r _ hrl hu, HR.out]⟩
      case measure => simp [intOf]; omega
    · go_wp2_with fail
      go_ret
      obtain rfl : k = s.size := by omega
      exact ⟨ret_u64 (by rw [HR.out, List.take_of_length_le (by simp [nats])]), rfl⟩
theorem refFeed_any (h : Nat) (s : ByteArray) (hh : h < 18446744073709551616) (w : World) (hs : s.size ≤ maxLen) :
    Calls Try.prog 28 #[.int .u64 (h : Int), .string s] w fun e w' => e = .returned (.int .u64 (fnv h (nats s) : Nat)) ∧ w' = w := by
  unfold maxLen at hs
  go_enter Try.func28, Try.ntmps28
  go_wp2_with fail
  go_loop [0, 5] (fun r i => ∃ k : Nat, k ≤ s.size ∧ i = .int .i64 k ∧ r = .int .u64 (fnv h ((nats s).take k) : Nat)) (fun _ i => s.size - (intOf i).toNat)
  case atStart => exact ⟨0, by omega, rfl, rfl⟩
  case round =>
    obtain ⟨k, hk, rfl, rfl⟩ := hrel
    have hrl := fnv_lt ((nats s).take k) h hh
    obtain ⟨r, hr⟩ : ∃ r, r = fnv h ((nats s).take k) := ⟨_, rfl⟩
    rw [← hr] at hrl ⊢
    have HR : Hid (r = fnv h ((nats s).take k)) := hr
    clear hr
    by_cases h2 : k < s.size
    · have HS : Hid (fnv h ((nats s).take (k + 1)) = fnvStep (fnv h ((nats s).take k)) s[k].toNat) := fnv_snoc h s k h2
      have hu : s[k].toNat < 256 := s[k].toNat_lt
      go_wp2
      go_round
      case rel => exact ⟨k + 1, by omega, by go_num, by rw [HS.out, feed_num r _ hrl hu, HR.out]⟩
      case measure => simp [intOf]; omega
    · go_wp2_with fail
      go_ret
      obtain rfl : k = s.size := by omega
      exact ⟨ret_u64 (by rw [HR.out, List.take_of_length_le (by simp [nats])]), rfl⟩
theorem begin_any (w : World) : Calls Try.prog 30 #[] w fun e w' => e = .returned (.int .u64 (14695981039346656037 : Nat)) ∧ w' = w := by
  go_enter Try.func30, Try.ntmps30
  go_wp2
  go_ret
  exact ⟨rfl, rfl⟩
def hsh (s : Tx) : Nat := fnv 14695981039346656037 (nats s)
theorem hsh_lt (s : Tx) : hsh s < 18446744073709551616 := fnv_lt _ _ (by decide)
theorem hash_any (s : ByteArray) (w : World) (hs : s.size ≤ maxLen) :
    Calls Try.prog 27 #[.string s] w fun e w' => e = .returned (.int .u64 (hsh s : Nat)) ∧ w' = w := by
  go_enter Try.func27, Try.ntmps27
  go_wp2_with (first | (go_at_call 30; go_must (refine (begin_any _).mono ?_); rintro e w' ⟨rfl, rfl⟩) | (go_at_call 29; go_must (refine (feed_any 14695981039346656037 s (by decide) _ hs).mono ?_); rintro e w' ⟨rfl, rfl⟩))
  go_ret
  exact ⟨rfl, rfl⟩
theorem refHash_any (s : ByteArray) (w : World) (hs : s.size ≤ maxLen) :
    Calls Try.prog 25 #[.string s] w fun e w' => e = .returned (.int .u64 (hsh s : Nat)) ∧ w' = w := by
  go_enter Try.func25, Try.ntmps25
  go_wp2_with (go_at_call 28; go_must (refine (refFeed_any 14695981039346656037 s (by decide) _ hs).mono ?_); rintro e w' ⟨rfl, rfl⟩)
  go_ret
  exact ⟨rfl, rfl⟩
/-- a key's place among P -/
def pl (P : Nat) (s : Tx) : Nat := hsh s % P
theorem pl_lt {P : Nat} (s : Tx) (h : 0 < P) : pl P s < P := Nat.mod_lt _ h
theorem pl_num (h P : Nat) (hh : h < 18446744073709551616) (h1 : 0 < P) (h2 : P ≤ 64) : ((h : Int) % (P : Int)) = ((h % P : Nat) : Int) := by omega
end Go.Proofs.Ytlpfoieoopjmgaa
