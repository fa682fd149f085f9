/- The walks of IdentNames and IdentOrder. -/
import Derived.Test.YtkapjgoomceglaaS1
namespace Go.Proofs.Ytkapjgoomceglaa
open Go.RowKit
set_option linter.unusedVariables false
set_option linter.unusedSimpArgs false

theorem Keeps.same {S : Nat → Prop} {w w' : World} (h : w' = w) : Keeps S w w' := h ▸ Keeps.refl _ _

/-- what Make answers, the program's and the document's alike -/
theorem make_both (s c : Int) (h0 : 0 ≤ s) (h2 : s ≤ 18446744073709551615) (h3 : -9223372036854775808 ≤ c) (h4 : c ≤ 9223372036854775807) :
    ∃ x k : Int, 0 ≤ x ∧ x ≤ 18446744073709551615 ∧ 0 ≤ k ∧ k ≤ 1 ∧
      (∀ w, Calls Try.prog 8 #[.int .u64 s, .int .i64 c] w fun e w' => e = .returned (.tuple #[.int .u64 x, .int .i64 k]) ∧ w' = w) ∧
      (∀ w, Calls Try.prog 14 #[.int .u64 s, .int .i64 c] w fun e w' => e = .returned (.tuple #[.int .u64 x, .int .i64 k]) ∧ w' = w) := by
  by_cases h : Right s c
  · refine ⟨nam s c, 0, ?_, ?_, by omega, by omega, fun w => make_yes w s c h, fun w => refMake_yes w s c h⟩ <;> (obtain ⟨_, _, _, _⟩ := h; unfold nam; omega)
  · exact ⟨0, 1, by omega, by omega, by omega, by omega, fun w => make_no w s c h0 h2 h3 h4 h, fun w => refMake_no w s c h0 h2 h3 h4 h⟩
theorem split_both (x : Int) (h0 : 0 ≤ x) (h1 : x ≤ 18446744073709551615) :
    ∃ n c k : Int, 0 ≤ n ∧ n ≤ 18446744073709551615 ∧ 0 ≤ c ∧ c ≤ 65535 ∧ 0 ≤ k ∧ k ≤ 1 ∧
      (∀ w, Calls Try.prog 9 #[.int .u64 x] w fun e w' => e = .returned (.tuple #[.int .u64 n, .int .i64 c, .int .i64 k]) ∧ w' = w) ∧
      (∀ w, Calls Try.prog 15 #[.int .u64 x] w fun e w' => e = .returned (.tuple #[.int .u64 n, .int .i64 c, .int .i64 k]) ∧ w' = w) := by
  by_cases h : 65536 ≤ x
  · exact ⟨x / 65536, x % 65536, 0, by omega, by omega, by omega, by omega, by omega, by omega, fun w => split_yes w x h h1, fun w => refSplit_yes w x h h1⟩
  · exact ⟨0, 0, 1, by omega, by omega, by omega, by omega, by omega, by omega, fun w => split_no w x h0 (by omega), fun w => refSplit_no w x h0 (by omega)⟩

theorem identNames_any (w : World) (s c x : Int) (h0 : 0 ≤ s) (h2 : s ≤ 18446744073709551615) (h3 : -9223372036854775808 ≤ c) (h4 : c ≤ 9223372036854775807) (h5 : 0 ≤ x) (h6 : x ≤ 18446744073709551615) :
    Calls Try.prog 5 #[.int .u64 s, .int .i64 c, .int .u64 x] w fun e w' => e = .returned (.bool true) ∧ Keeps (fun _ => False) w w' := by
  obtain ⟨y, k, y0, y1, k0, k1, cm, cr⟩ := make_both s c h0 h2 h3 h4
  obtain ⟨n, d, j, n0, n1, d0, d1, j0, j1, cs, ct⟩ := split_both x h5 h6
  go_enter Try.func5, Try.ntmps5
  go_wp2_with fail
  refine (alive_any w).mono ?_
  rintro e w1 ⟨rfl, hk1⟩
  go_wp2_with fail
  refine (cm w1).mono ?_
  rintro e w2 ⟨rfl, rfl⟩
  go_wp2_with fail
  refine (cr w2).mono ?_
  rintro e w3 ⟨rfl, rfl⟩
  go_wp2_with fail
  refine (cs w3).mono ?_
  rintro e w4 ⟨rfl, rfl⟩
  go_wp2_with fail
  refine (ct w4).mono ?_
  rintro e w5 ⟨rfl, rfl⟩
  go_wp2
  go_ret
  exact ⟨by simp, hk1⟩

theorem nam_div (s c : Int) (h : Right s c) : nam s c / 65536 = s := by obtain ⟨_, _, _, _⟩ := h; unfold nam; omega
theorem nam_mod (s c : Int) (h : Right s c) : nam s c % 65536 = c := by obtain ⟨_, _, _, _⟩ := h; unfold nam; omega
theorem nam_low (s c : Int) (h : Right s c) : 65536 ≤ nam s c := by obtain ⟨_, _, _, _⟩ := h; unfold nam; omega
theorem nam_high (s c : Int) (h : Right s c) : nam s c ≤ 18446744073709551615 := by obtain ⟨_, _, _, _⟩ := h; unfold nam; omega
theorem split_nam (w : World) (s c : Int) (h : Right s c) :
    Calls Try.prog 9 #[.int .u64 (nam s c)] w fun e w' => e = .returned (.tuple #[.int .u64 s, .int .i64 c, .int .i64 0]) ∧ w' = w := by
  have := split_yes w (nam s c) (nam_low s c h) (nam_high s c h)
  rwa [nam_div s c h, nam_mod s c h] at this
theorem nam_lt (a c b d : Int) (h : Right a c) (k : Right b d) : decide (nam a c < nam b d) = (decide (a < b) || (a == b && decide (c < d))) := by
  obtain ⟨_, _, _, _⟩ := h
  obtain ⟨_, _, _, _⟩ := k
  rw [Bool.eq_iff_iff]
  simp only [decide_eq_true_eq, Bool.or_eq_true, Bool.and_eq_true, beq_iff_eq]
  unfold nam
  constructor <;> intro hh <;> omega
theorem nam_eq (a c b d : Int) (h : Right a c) (k : Right b d) : (nam a c == nam b d) = (a == b && c == d) := by
  obtain ⟨_, _, _, _⟩ := h
  obtain ⟨_, _, _, _⟩ := k
  rw [Bool.eq_iff_iff]
  simp only [decide_eq_true_eq, Bool.or_eq_true, Bool.and_eq_true, beq_iff_eq]
  unfold nam
  constructor <;> intro hh <;> omega

theorem identOrder_any (w : World) (a c b d : Int) (h0 : 0 ≤ a) (h2 : a ≤ 18446744073709551615) (h3 : 0 ≤ c) (h4 : c ≤ 65535) (h5 : 0 ≤ b) (h6 : b ≤ 18446744073709551615) (h7 : 0 ≤ d) (h8 : d ≤ 65535) :
    Calls Try.prog 3 #[.int .u64 a, .int .u16 c, .int .u64 b, .int .u16 d] w fun e w' => e = .returned (.bool true) ∧ Keeps (fun _ => False) w w' := by
  go_enter Try.func3, Try.ntmps3
  go_wp2_with fail
  refine (alive_any w).mono ?_
  rintro e w1 ⟨rfl, hk1⟩
  go_wp2_with fail
  generalize hA : 1 + a % 281474976710655 = A
  generalize hB : 1 + b % 281474976710655 = B
  have rA : Right A c := ⟨by omega, by omega, h3, h4⟩
  have rB : Right B d := ⟨by omega, by omega, h7, h8⟩
  clear hA hB h0 h2 h5 h6
  have HA : Hid (Right A c) := rA
  have HB : Hid (Right B d) := rB
  have hl := nam_lt A c B d rA rB
  have he := nam_eq A c B d rA rB
  have l1 := nam_low A c rA
  have l2 := nam_high A c rA
  have l3 := nam_low B d rB
  have l4 := nam_high B d rB
  obtain ⟨a1, a2, _, _⟩ := rA
  obtain ⟨b1, b2, _, _⟩ := rB
  refine (make_yes w1 A c HA.out).mono ?_
  rintro e w2 ⟨rfl, rfl⟩
  go_wp2_with fail
  refine (make_yes w2 B d HB.out).mono ?_
  rintro e w3 ⟨rfl, rfl⟩
  go_wp2_with fail
  refine (split_nam w3 A c HA.out).mono ?_
  rintro e w4 ⟨rfl, rfl⟩
  go_wp2_with fail
  refine (make_yes w4 A c HA.out).mono ?_
  rintro e w5 ⟨rfl, rfl⟩
  go_wp2
  all_goals go_ret
  all_goals refine ⟨?_, hk1⟩
  all_goals simp_all
end Go.Proofs.Ytkapjgoomceglaa
