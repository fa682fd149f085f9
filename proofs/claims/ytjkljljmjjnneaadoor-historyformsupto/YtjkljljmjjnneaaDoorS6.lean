/- What a refusal of Parse says, in pure lists. -/
import Derived.Test.YtjkljljmjjnneaaDoorS4
namespace Go.Proofs.YtjkljljmjjnneaaDoor
open Go.RowKit Go.Sort Orl
set_option linter.unusedVariables false
set_option linter.unusedSimpArgs false

theorem parse_none_le : ∀ (f : Nat) (l : List UInt8) (n k : Nat), l.length ≤ f → parseF f l n = (none, k) → n + 1 ≤ k ∧ k ≤ n + l.length
  | 0, l, n, k, _, h => by cases h
  | f + 1, l, n, k, hf, h => by
    rw [parseF] at h
    have hc := cutL_len 10 l
    split at h
    · cases h
    · rename_i hl
      have hp : 1 ≤ l.length := by
        cases l with
        | nil => exact absurd rfl hl
        | cons a l => simp
      have h2 := hc.2.2 hl
      split at h
      · cases h; omega
      · split at h
        · cases h; omega
        · split at h
          · cases h
          · rename_i hq
            cases h
            have := parse_none_le f _ _ _ (by omega) hq
            omega
theorem parse_none_bound {l : List UInt8} {k : Nat} (h : parseR l = (none, k)) : 1 ≤ k ∧ k ≤ l.length := by
  have := parse_none_le _ l 0 k (Nat.le_refl _) h
  omega
theorem parse_nil_text {xs : List Eb} {k : Nat} (h : parseR [] = (some xs, k)) : xs = [] := by cases h; rfl
theorem printV_inj {es : List Ev} {s t : Tx} (h : printV es = .tuple #[.string s, .int .i64 0]) (k : printV es = .tuple #[.string t, .int .i64 0]) : s = t := by
  rw [h] at k
  injection k with k
  injection k with k
  injection k with k1 k2
  injection k1
end Go.Proofs.YtjkljljmjjnneaaDoor
