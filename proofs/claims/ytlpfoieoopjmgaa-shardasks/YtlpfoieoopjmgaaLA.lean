import Derived.Test.YtlpfoieoopjmgaaK1
namespace Go.Proofs.Ytlpfoieoopjmgaa
open Go.RowKit
set_option linter.unusedVariables false
set_option linter.unusedSimpArgs false

theorem shardAsks_any (w : World) (s : Tx) (n : Int) (hs : s.size ≤ maxLen) : Calls Try.prog 5 #[.string s, .int .i64 n] w fun e w' => e = .returned (.bool true) ∧ Keeps no w w' := by
  have HS : Hid (s.size ≤ maxLen) := hs
  clear hs
  by_cases h : 1 ≤ n ∧ n ≤ 64
  · obtain ⟨P, rfl⟩ : ∃ P : Nat, n = P := ⟨n.toNat, by omega⟩
    have h1 : 0 < P := by omega
    have h2 : P ≤ 64 := by omega
    clear h
    go_enter Try.func5, Try.ntmps5
    go_wp2_with fail
    refine (of_yes s P h1 h2 _ HS.out).mono ?_
    rintro e w' ⟨rfl, hw'⟩
    subst w'
    go_wp2_with fail
    refine (refOf_yes s P h1 h2 _ HS.out).mono ?_
    rintro e w' ⟨rfl, hw'⟩
    subst w'
    go_wp2_with fail
    refine (known_any _).mono ?_
    rintro e w' ⟨rfl, hk⟩
    go_wp2_with fail
    go_ret
    exact ⟨rfl, hk⟩
  · have H : Hid (¬ (1 ≤ n ∧ n ≤ 64)) := h
    clear h
    go_enter Try.func5, Try.ntmps5
    go_wp2_with fail
    refine (of_no s n H.out _).mono ?_
    rintro e w' ⟨rfl, hw'⟩
    subst w'
    go_wp2_with fail
    refine (refOf_no s n H.out _).mono ?_
    rintro e w' ⟨rfl, hw'⟩
    subst w'
    go_wp2_with fail
    refine (known_any _).mono ?_
    rintro e w' ⟨rfl, hk⟩
    go_wp2_with fail
    go_ret
    exact ⟨rfl, hk⟩
end Go.Proofs.Ytlpfoieoopjmgaa
