/- A key's place: the document's (ported from stage 5). -/
import Derived.Test.YtghnhkhhpeoheaaGreatH1
namespace Go.Proofs.YtghnhkhhpeoheaaGreat
open Go.RowKit Go.Sort Orl
set_option linter.unusedVariables false
set_option linter.unusedSimpArgs false
theorem refFeed_any (h : Nat) (s : ByteArray) (hh : h < 18446744073709551616) (w : World) (hs : s.size ≤ maxLen) :
    Calls Tryz.prog 80 #[.int .u64 (h : Int), .string s] w fun e w' => e = .returned (.int .u64 (fnv h (nats s) : Nat)) ∧ w' = w := by
  unfold maxLen at hs
  go_enter Tryz.func80, Tryz.ntmps80
  go_wp2_with fail
  go_loop [0, 5] (fun r i => ∃ k : Nat, k ≤ s.size ∧ i = .int .i64 k ∧ r = .int .u64 (fnv h ((nats s).take k) : Nat)) (fun _ i => s.size - (intOf i).toNat)
  case atStart => exact ⟨0, by omega, rfl, rfl⟩
  case round =>
    obtain ⟨k, hk, rfl, rfl⟩ := hrel
    have hrl := fnv_lt ((nats s).take k) h hh
    obtain ⟨r, hr⟩ : ∃ r, r = fnv h ((nats s).take k) := ⟨_, rfl⟩
    rw [← hr] at hrl ⊢
    have HR : Hid (r = fnv h ((nats s).take k)) := hr
    clear hr
    by_cases h2 : k < s.size
    · have HS : Hid (fnv h ((nats s).take (k + 1)) = fnvStep (fnv h ((nats s).take k)) s[k].toNat) := fnv_snoc h s k h2
      have hu : s[k].toNat < 256 := s[k].toNat_lt
      go_wp2
      go_round
      case rel => exact ⟨k + 1, by omega, by go_num, by rw [HS.out, feed_num r _ hrl hu, HR.out]⟩
      case measure => simp [intOf]; omega
    · go_wp2_with fail
      go_ret
      obtain rfl : k = s.size := by omega
      exact ⟨ret_u64 (by rw [HR.out, List.take_of_length_le (by simp [nats])]), rfl⟩
theorem refHash_any (s : ByteArray) (w : World) (hs : s.size ≤ maxLen) :
    Calls Tryz.prog 64 #[.string s] w fun e w' => e = .returned (.int .u64 (hsh s : Nat)) ∧ w' = w := by
  go_enter Tryz.func64, Tryz.ntmps64
  go_wp2_with (go_at_call 80; go_must (refine (refFeed_any 14695981039346656037 s (by decide) _ hs).mono ?_); rintro e w' ⟨rfl, rfl⟩)
  go_ret
  exact ⟨rfl, rfl⟩
theorem refOf_yes (s : Tx) (P : Nat) (h1 : 0 < P) (h2 : P ≤ 64) (w : World) (hs : s.size ≤ maxLen) :
    Calls Tryz.prog 55 #[.string s, .int .i64 (P : Int)] w fun e w' => e = .returned (.tuple #[.int .i64 (pl P s : Nat), .int .i64 0]) ∧ w' = w := by
  have hh := hsh_lt s
  obtain ⟨q, hq⟩ : ∃ q, q = pl P s := ⟨_, rfl⟩
  obtain ⟨h, hhh⟩ : ∃ h, h = hsh s := ⟨_, rfl⟩
  have hql : q < P := by rw [hq]; exact pl_lt s h1
  rw [← hq]
  have HQ : Hid (q = h % P) := show _ = _ by rw [hq, hhh]; rfl
  rw [← hhh] at hh
  have HH : Hid (h = hsh s) := hhh
  clear hq hhh
  have hrem : ((h : Int) % (P : Int)) = (q : Int) := by rw [pl_num h P hh h1 h2, HQ.out]
  have hrem' : ((h : Int).tmod (P : Int)) = (q : Int) := by rw [Int.tmod_eq_emod_of_nonneg (by omega), hrem]
  have hP0 : ¬ (P : Int) = 0 := by omega
  have hP1 : ¬ (P : Int) < 1 := by omega
  go_enter Tryz.func55, Tryz.ntmps55
  go_wp2_with (go_at_call 64; go_must (refine (refHash_any s _ hs).mono ?_); rintro e w' ⟨rfl, rfl⟩; rw [← HH.out])
  go_ret2
  exact ⟨rfl, rfl⟩
theorem refOf_no (s : Tx) (n : Int) (h : ¬ (1 ≤ n ∧ n ≤ 64)) (w : World) :
    Calls Tryz.prog 55 #[.string s, .int .i64 n] w fun e w' => e = .returned (.tuple #[.int .i64 0, .int .i64 1]) ∧ w' = w := by
  by_cases h1 : n < 1
  · clear h
    go_enter Tryz.func55, Tryz.ntmps55
    go_wp2_with fail
    go_ret2
    exact ⟨rfl, rfl⟩
  · have h2 : 64 < n := by omega
    clear h
    go_enter Tryz.func55, Tryz.ntmps55
    go_wp2_with fail
    go_ret2
    exact ⟨rfl, rfl⟩

end Go.Proofs.YtghnhkhhpeoheaaGreat
