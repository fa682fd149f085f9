/- The names: isSeq, isClient, join, Make, Split; the document's Make and Split. -/
import Derived.Test.YtkapjgoomceglaaMem
namespace Go.Proofs.Ytkapjgoomceglaa
open Go.RowKit
set_option linter.unusedVariables false
set_option linter.unusedSimpArgs false

/-- the two numbers are a name's -/
def Right (s c : Int) : Prop := 1 ≤ s ∧ s ≤ 281474976710655 ∧ 0 ≤ c ∧ c ≤ 65535
instance (s c : Int) : Decidable (Right s c) := by unfold Right; infer_instance
def nam (s c : Int) : Int := s * 65536 + c

theorem isSeq_yes (w : World) (s : Int) (h1 : 1 ≤ s) (h2 : s ≤ 281474976710655) :
    Calls Try.prog 20 #[.int .u64 s] w fun e w' => e = .returned (.bool true) ∧ w' = w := by
  go_enter Try.func20, Try.ntmps20
  go_wp2
  go_ret
  exact ⟨rfl, rfl⟩
theorem isSeq_low (w : World) : Calls Try.prog 20 #[.int .u64 0] w fun e w' => e = .returned (.bool false) ∧ w' = w := by
  go_enter Try.func20, Try.ntmps20
  go_wp2
  go_ret
  exact ⟨rfl, rfl⟩
theorem isSeq_high (w : World) (s : Int) (h1 : 281474976710655 < s) (h2 : s ≤ 18446744073709551615) :
    Calls Try.prog 20 #[.int .u64 s] w fun e w' => e = .returned (.bool false) ∧ w' = w := by
  go_enter Try.func20, Try.ntmps20
  go_wp2
  go_ret
  exact ⟨by simp; omega, rfl⟩
theorem isSeq_no (w : World) (s : Int) (h0 : 0 ≤ s) (h2 : s ≤ 18446744073709551615) (h : ¬ (1 ≤ s ∧ s ≤ 281474976710655)) :
    Calls Try.prog 20 #[.int .u64 s] w fun e w' => e = .returned (.bool false) ∧ w' = w := by
  by_cases hs : s = 0
  · subst hs; exact isSeq_low w
  · exact isSeq_high w s (by omega) h2

theorem isClient_yes (w : World) (c : Int) (h1 : 0 ≤ c) (h2 : c ≤ 65535) :
    Calls Try.prog 21 #[.int .i64 c] w fun e w' => e = .returned (.bool true) ∧ w' = w := by
  go_enter Try.func21, Try.ntmps21
  go_wp2
  go_ret
  exact ⟨rfl, rfl⟩
theorem isClient_low (w : World) (c : Int) (h1 : c < 0) (h2 : -9223372036854775808 ≤ c) :
    Calls Try.prog 21 #[.int .i64 c] w fun e w' => e = .returned (.bool false) ∧ w' = w := by
  go_enter Try.func21, Try.ntmps21
  go_wp2
  go_ret
  exact ⟨rfl, rfl⟩
theorem isClient_high (w : World) (c : Int) (h1 : 65535 < c) (h2 : c ≤ 9223372036854775807) :
    Calls Try.prog 21 #[.int .i64 c] w fun e w' => e = .returned (.bool false) ∧ w' = w := by
  go_enter Try.func21, Try.ntmps21
  go_wp2
  go_ret
  exact ⟨by simp; omega, rfl⟩
theorem isClient_no (w : World) (c : Int) (h1 : -9223372036854775808 ≤ c) (h2 : c ≤ 9223372036854775807) (h : ¬ (0 ≤ c ∧ c ≤ 65535)) :
    Calls Try.prog 21 #[.int .i64 c] w fun e w' => e = .returned (.bool false) ∧ w' = w := by
  by_cases hs : c < 0
  · exact isClient_low w c hs h1
  · exact isClient_high w c (by omega) h2

theorem or_nam (s c : Int) (h : Right s c) : bits .or .u64 (s * 65536) c = nam s c := by
  obtain ⟨h1, h2, h3, h4⟩ := h
  obtain ⟨a, rfl⟩ := Int.eq_ofNat_of_zero_le (show 0 ≤ s by omega)
  obtain ⟨b, rfl⟩ := Int.eq_ofNat_of_zero_le h3
  have e : ((a : Int) * 65536) = ((a * 65536 : Nat) : Int) := by omega
  rw [e, u64_or_nat _ _ (by omega) (by omega)]
  have := Nat.two_pow_add_eq_or_of_lt (i := 16) (b := b) (by omega) a
  rw [show a * 65536 = 2 ^ 16 * a by omega, ← this]
  unfold nam
  omega
theorem and_low (x : Int) (h0 : 0 ≤ x) (h1 : x ≤ 18446744073709551615) : bits .and .u64 x 65535 = x % 65536 := by
  rw [u64_and _ _ h0 (by omega) (by decide) (by decide)]
  show ((x.toNat &&& 65535 : Nat) : Int) = _
  rw [show x.toNat &&& 65535 = x.toNat % 65536 from Nat.and_two_pow_sub_one_eq_mod _ 16]
  omega

theorem join_any (w : World) (s c : Int) (h : Right s c) :
    Calls Try.prog 22 #[.int .u64 s, .int .i64 c] w fun e w' => e = .returned (.int .u64 (nam s c)) ∧ w' = w := by
  have HO := or_nam s c h
  obtain ⟨h1, h2, h3, h4⟩ := h
  go_enter Try.func22, Try.ntmps22
  go_wp2
  go_ret
  exact ⟨rfl, rfl⟩

theorem make_yes (w : World) (s c : Int) (h : Right s c) :
    Calls Try.prog 8 #[.int .u64 s, .int .i64 c] w fun e w' => e = .returned (.tuple #[.int .u64 (nam s c), .int .i64 0]) ∧ w' = w := by
  go_enter Try.func8, Try.ntmps8
  go_wp2_with fail
  refine (isSeq_yes w s h.1 h.2.1).mono ?_
  rintro e w1 ⟨rfl, rfl⟩
  go_wp2_with fail
  refine (isClient_yes w1 c h.2.2.1 h.2.2.2).mono ?_
  rintro e w2 ⟨rfl, rfl⟩
  go_wp2_with fail
  refine (join_any w2 s c h).mono ?_
  rintro e w3 ⟨rfl, rfl⟩
  go_wp2
  go_ret2
  exact ⟨rfl, rfl⟩

theorem make_noSeq (w : World) (s c : Int) (h0 : 0 ≤ s) (h2 : s ≤ 18446744073709551615) (h : ¬ (1 ≤ s ∧ s ≤ 281474976710655)) :
    Calls Try.prog 8 #[.int .u64 s, .int .i64 c] w fun e w' => e = .returned (.tuple #[.int .u64 0, .int .i64 1]) ∧ w' = w := by
  go_enter Try.func8, Try.ntmps8
  go_wp2_with fail
  refine (isSeq_no w s h0 h2 h).mono ?_
  rintro e w1 ⟨rfl, rfl⟩
  go_wp2
  go_ret2
  exact ⟨rfl, rfl⟩
theorem make_noClient (w : World) (s c : Int) (h1 : 1 ≤ s) (h2 : s ≤ 281474976710655) (h3 : -9223372036854775808 ≤ c) (h4 : c ≤ 9223372036854775807) (h : ¬ (0 ≤ c ∧ c ≤ 65535)) :
    Calls Try.prog 8 #[.int .u64 s, .int .i64 c] w fun e w' => e = .returned (.tuple #[.int .u64 0, .int .i64 1]) ∧ w' = w := by
  go_enter Try.func8, Try.ntmps8
  go_wp2_with fail
  refine (isSeq_yes w s h1 h2).mono ?_
  rintro e w1 ⟨rfl, rfl⟩
  go_wp2_with fail
  refine (isClient_no w1 c h3 h4 h).mono ?_
  rintro e w2 ⟨rfl, rfl⟩
  go_wp2
  go_ret2
  exact ⟨rfl, rfl⟩
theorem make_no (w : World) (s c : Int) (h0 : 0 ≤ s) (h2 : s ≤ 18446744073709551615) (h3 : -9223372036854775808 ≤ c) (h4 : c ≤ 9223372036854775807) (h : ¬ Right s c) :
    Calls Try.prog 8 #[.int .u64 s, .int .i64 c] w fun e w' => e = .returned (.tuple #[.int .u64 0, .int .i64 1]) ∧ w' = w := by
  by_cases hs : 1 ≤ s ∧ s ≤ 281474976710655
  · exact make_noClient w s c hs.1 hs.2 h3 h4 (fun hc => h ⟨hs.1, hs.2, hc.1, hc.2⟩)
  · exact make_noSeq w s c h0 h2 hs

theorem split_yes (w : World) (x : Int) (h0 : 65536 ≤ x) (h1 : x ≤ 18446744073709551615) :
    Calls Try.prog 9 #[.int .u64 x] w fun e w' => e = .returned (.tuple #[.int .u64 (x / 65536), .int .i64 (x % 65536), .int .i64 0]) ∧ w' = w := by
  have hand := and_low x (by omega) h1
  go_enter Try.func9, Try.ntmps9
  go_wp2_with fail
  refine (isSeq_yes w (x / 65536) (by omega) (by omega)).mono ?_
  rintro e w1 ⟨rfl, rfl⟩
  go_wp2
  go_ret3
  exact ⟨rfl, rfl⟩
theorem split_no (w : World) (x : Int) (h0 : 0 ≤ x) (h1 : x < 65536) :
    Calls Try.prog 9 #[.int .u64 x] w fun e w' => e = .returned (.tuple #[.int .u64 0, .int .i64 0, .int .i64 1]) ∧ w' = w := by
  have hd : x / 65536 = 0 := by omega
  go_enter Try.func9, Try.ntmps9
  go_wp2_with fail
  refine (isSeq_no w _ ?_ ?_ ?_).mono ?_
  all_goals try omega
  rintro e w1 ⟨rfl, rfl⟩
  go_wp2
  go_ret3
  exact ⟨rfl, rfl⟩

theorem refMake_yes (w : World) (s c : Int) (h : Right s c) :
    Calls Try.prog 14 #[.int .u64 s, .int .i64 c] w fun e w' => e = .returned (.tuple #[.int .u64 (nam s c), .int .i64 0]) ∧ w' = w := by
  obtain ⟨h1, h2, h3, h4⟩ := h
  have n1 : (s == 0) = false := by simp; omega
  have n2 : ¬ 281474976710655 < s := by omega
  have n3 : ¬ c < 0 := by omega
  have n4 : ¬ 65535 < c := by omega
  go_enter Try.func14, Try.ntmps14
  go_wp2
  go_ret2
  exact ⟨rfl, rfl⟩
theorem refMake_no (w : World) (s c : Int) (h0 : 0 ≤ s) (h2 : s ≤ 18446744073709551615) (h3 : -9223372036854775808 ≤ c) (h4 : c ≤ 9223372036854775807) (h : ¬ Right s c) :
    Calls Try.prog 14 #[.int .u64 s, .int .i64 c] w fun e w' => e = .returned (.tuple #[.int .u64 0, .int .i64 1]) ∧ w' = w := by
  by_cases a : s = 0
  · subst a
    go_enter Try.func14, Try.ntmps14
    go_wp2
    go_ret2
    exact ⟨rfl, rfl⟩
  by_cases b : 281474976710655 < s
  · go_enter Try.func14, Try.ntmps14
    go_wp2
    go_ret2
    exact ⟨rfl, rfl⟩
  by_cases d : c < 0
  · go_enter Try.func14, Try.ntmps14
    go_wp2
    go_ret2
    exact ⟨rfl, rfl⟩
  have f : 65535 < c := by unfold Right at h; omega
  go_enter Try.func14, Try.ntmps14
  go_wp2
  go_ret2
  exact ⟨rfl, rfl⟩
theorem refSplit_yes (w : World) (x : Int) (h0 : 65536 ≤ x) (h1 : x ≤ 18446744073709551615) :
    Calls Try.prog 15 #[.int .u64 x] w fun e w' => e = .returned (.tuple #[.int .u64 (x / 65536), .int .i64 (x % 65536), .int .i64 0]) ∧ w' = w := by
  go_enter Try.func15, Try.ntmps15
  go_wp2
  go_ret3
  exact ⟨rfl, rfl⟩
theorem refSplit_no (w : World) (x : Int) (h0 : 0 ≤ x) (h1 : x < 65536) :
    Calls Try.prog 15 #[.int .u64 x] w fun e w' => e = .returned (.tuple #[.int .u64 0, .int .i64 0, .int .i64 1]) ∧ w' = w := by
  go_enter Try.func15, Try.ntmps15
  go_wp2
  go_ret3
  exact ⟨rfl, rfl⟩
end Go.Proofs.Ytkapjgoomceglaa
