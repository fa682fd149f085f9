/- A key's place (ported from stage 5). -/
import Derived.Test.YtghnhkhhpeoheaaGreatM2
import Derived.Laws.MakeOwn
import Derived.Laws.OwnMore
import Derived.Deep.OwnRows
namespace Go.Proofs.YtghnhkhhpeoheaaGreat
open Go.RowKit Go.Sort Orl
set_option linter.unusedVariables false
set_option linter.unusedSimpArgs false

theorem ret_u64 {a b : Int} (h : a = b) : Ending.returned (.int .u64 a) = .returned (.int .u64 b) := by rw [h]
theorem ret_i64 {a b : Int} (h : a = b) : Ending.returned (.int .i64 a) = .returned (.int .i64 b) := by rw [h]
theorem bits_xor_nat64 (a b : Nat) (ha : a < 18446744073709551616) (hb : b < 18446744073709551616) : bits .xor .u64 (a : Int) (b : Int) = ((a ^^^ b : Nat) : Int) := by
  have := u64_xor_nat a b ha hb
  exact this
theorem fnvStep_lt (h c : Nat) : fnvStep h c < 18446744073709551616 := Nat.mod_lt _ (by decide)
theorem fnv_append (h : Nat) (a b : List Nat) : fnv h (a ++ b) = fnv (fnv h a) b := List.foldl_append
theorem fnv_one (h c : Nat) : fnv h [c] = fnvStep h c := by rw [fnv, List.foldl_cons, List.foldl_nil]
theorem fnv_lt (bs : List Nat) : ∀ h, h < 18446744073709551616 → fnv h bs < 18446744073709551616 := by
  induction bs with
  | nil => intro h hh; exact hh
  | cons c bs ih => intro h _; exact ih _ (fnvStep_lt _ _)
theorem fnv_snoc (h : Nat) (s : ByteArray) (k : Nat) (hk : k < s.size) : fnv h ((nats s).take (k + 1)) = fnvStep (fnv h ((nats s).take k)) s[k].toNat := by
  have hl : k < (nats s).length := by simpa [nats] using hk
  have e : (nats s)[k] = s[k].toNat := by simp [nats]; rfl
  rw [List.take_succ_eq_append_getElem hl, fnv_append, e, fnv_one]
theorem feed_num (g c : Nat) (hg : g < 18446744073709551616) (hc : c < 256) : IntKind.u64.wrap (bits .xor .u64 (g : Int) (c : Int) * 1099511628211) = (fnvStep g c : Nat) := by
  rw [bits_xor_nat64 g c hg (by omega), IntKind.wrap_u64]
  unfold fnvStep
  omega
theorem feed_any (h : Nat) (s : ByteArray) (hh : h < 18446744073709551616) (w : World) (hs : s.size ≤ maxLen) :
    Calls Tryz.prog 88 #[.int .u64 (h : Int), .string s] w fun e w' => e = .returned (.int .u64 (fnv h (nats s) : Nat)) ∧ w' = w := by
  unfold maxLen at hs
  go_enter Tryz.func88, Tryz.ntmps88
  go_wp2_with fail
  go_loop [0, 8] (fun r i => ∃ k : Nat, k ≤ s.size ∧ i = .int .i64 k ∧ r = .int .u64 (fnv h ((nats s).take k) : Nat)) (fun _ i => s.size - (intOf i).toNat)
  case atStart => exact ⟨0, by omega, rfl, rfl⟩
  case round =>
    obtain ⟨k, hk, rfl, rfl⟩ := hrel
    have hrl := fnv_lt ((nats s).take k) h hh
    obtain ⟨r, hr⟩ : ∃ r, r = fnv h ((nats s).take k) := ⟨_, rfl⟩
    rw [← hr] at hrl ⊢
    have HR : Hid (r = fnv h ((nats s).take k)) := hr
    clear hr
    by_cases h2 : k < s.size
    · have HS : Hid (fnv h ((nats s).take (k + 1)) = fnvStep (fnv h ((nats s).take k)) s[k].toNat) := fnv_snoc h s k h2
      have hu : s[k].toNat < 256 := s[k].toNat_lt
      go_wp2
      go_round
      case rel => exact ⟨k + 1, by omega, by go_num, by rw [HS.out, feed_num r _ hrl hu, HR.out]⟩
      case measure => simp [intOf]; omega
    · go_wp2_with fail
      go_ret
      obtain rfl : k = s.size := by omega
      exact ⟨ret_u64 (by rw [HR.out, List.take_of_length_le (by simp [nats])]), rfl⟩
theorem begin_any (w : World) : Calls Tryz.prog 89 #[] w fun e w' => e = .returned (.int .u64 (14695981039346656037 : Nat)) ∧ w' = w := by
  go_enter Tryz.func89, Tryz.ntmps89
  go_wp2
  go_ret
  exact ⟨rfl, rfl⟩
theorem hsh_lt (s : Tx) : hsh s < 18446744073709551616 := fnv_lt _ _ (by decide)
theorem hash_any (s : ByteArray) (w : World) (hs : s.size ≤ maxLen) :
    Calls Tryz.prog 77 #[.string s] w fun e w' => e = .returned (.int .u64 (hsh s : Nat)) ∧ w' = w := by
  go_enter Tryz.func77, Tryz.ntmps77
  go_wp2_with (first | (go_at_call 89; go_must (refine (begin_any _).mono ?_); rintro e w' ⟨rfl, rfl⟩) | (go_at_call 88; go_must (refine (feed_any 14695981039346656037 s (by decide) _ hs).mono ?_); rintro e w' ⟨rfl, rfl⟩))
  go_ret
  exact ⟨rfl, rfl⟩
theorem pl_num (h P : Nat) (hh : h < 18446744073709551616) (h1 : 0 < P) (h2 : P ≤ 64) : ((h : Int) % (P : Int)) = ((h % P : Nat) : Int) := by omega
theorem may_any (n : Int) (w : World) : Calls Tryz.prog 51 #[.int .i64 n] w fun e w' => e = .returned (.bool (decide (1 ≤ n ∧ n ≤ 64))) ∧ w' = w := by
  by_cases h : 1 ≤ n
  · by_cases h2 : n ≤ 64
    · have hd : decide (1 ≤ n ∧ n ≤ 64) = true := by simp [h, h2]
      rw [hd]
      go_enter Tryz.func51, Tryz.ntmps51
      go_wp2
      go_ret
      exact ⟨rfl, rfl⟩
    · have hd : decide (1 ≤ n ∧ n ≤ 64) = false := by simp [h2]
      rw [hd]
      go_enter Tryz.func51, Tryz.ntmps51
      go_wp2
      go_ret
      exact ⟨rfl, rfl⟩
  · have hd : decide (1 ≤ n ∧ n ≤ 64) = false := by simp [h]
    rw [hd]
    go_enter Tryz.func51, Tryz.ntmps51
    go_wp2
    go_ret
    exact ⟨rfl, rfl⟩
theorem may_yes (P : Nat) (h1 : 0 < P) (h2 : P ≤ 64) (w : World) : Calls Tryz.prog 51 #[.int .i64 (P : Int)] w fun e w' => e = .returned (.bool true) ∧ w' = w := by
  refine (may_any P w).mono ?_
  rintro e w' ⟨rfl, rfl⟩
  have : decide (1 ≤ (P : Int) ∧ (P : Int) ≤ 64) = true := by simp; omega
  rw [this]; exact ⟨rfl, rfl⟩
theorem may_no (n : Int) (h : ¬ (1 ≤ n ∧ n ≤ 64)) (w : World) : Calls Tryz.prog 51 #[.int .i64 n] w fun e w' => e = .returned (.bool false) ∧ w' = w := by
  refine (may_any n w).mono ?_
  rintro e w' ⟨rfl, rfl⟩
  have : decide (1 ≤ n ∧ n ≤ 64) = false := by simpa using h
  rw [this]; exact ⟨rfl, rfl⟩

theorem place_any (s : Tx) (P : Nat) (h1 : 0 < P) (h2 : P ≤ 64) (w : World) (hs : s.size ≤ maxLen) :
    Calls Tryz.prog 62 #[.string s, .int .i64 (P : Int)] w fun e w' => e = .returned (.int .i64 (pl P s : Nat)) ∧ w' = w := by
  have hh := hsh_lt s
  have HP : Hid (pl P s = hsh s % P) := rfl
  obtain ⟨q, hq⟩ : ∃ q, q = pl P s := ⟨_, rfl⟩
  obtain ⟨h, hhh⟩ : ∃ h, h = hsh s := ⟨_, rfl⟩
  have hql : q < P := by rw [hq]; exact pl_lt s h1
  rw [← hq]
  have HQ : Hid (q = h % P) := show _ = _ by rw [hq, hhh]; rfl
  rw [← hhh] at hh
  have HH : Hid (h = hsh s) := hhh
  clear hq hhh HP
  have hrem : ((h : Int) % (P : Int)) = (q : Int) := by rw [pl_num h P hh h1 h2, HQ.out]
  have hrem' : ((h : Int).tmod (P : Int)) = (q : Int) := by rw [Int.tmod_eq_emod_of_nonneg (by omega), hrem]
  have hP0 : ¬ (P : Int) = 0 := by omega
  go_enter Tryz.func62, Tryz.ntmps62
  go_wp2_with (go_at_call 77; go_must (refine (hash_any s _ hs).mono ?_); rintro e w' ⟨rfl, rfl⟩; rw [← HH.out])
  go_ret
  exact ⟨rfl, rfl⟩

def ofA (s : Tx) (n : Int) : Int := if 1 ≤ n ∧ n ≤ 64 then (pl n.toNat s : Nat) else 0
def ofE (n : Int) : Int := if 1 ≤ n ∧ n ≤ 64 then 0 else 1
end Go.Proofs.YtghnhkhhpeoheaaGreat
