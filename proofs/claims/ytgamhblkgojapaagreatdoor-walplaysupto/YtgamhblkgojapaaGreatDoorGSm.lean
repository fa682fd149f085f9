/- The small functions: copies of bytes, names, the power, a file's crash. -/
import Derived.Test.YtgamhblkgojapaaGreatDoorGDa
namespace Go.Proofs.YtgamhblkgojapaaGreatDoor
open Go.RowKit Dk
set_option linter.unusedVariables false
set_option linter.unusedSimpArgs false

theorem sameG_any (w : World) (oa : Option Addr) (na ca : Nat) (ob : Option Addr) (nb cb : Nat) (xs ys : List UInt8) (hna : na = xs.length) (hnb : nb = ys.length) (ha : Row BU w oa xs) (hb : Row BU w ob ys) :
    Calls Tryz.prog 55 #[.slice oa na ca, .slice ob nb cb] w fun e w' => e = .returned (.bool (decide (xs = ys))) ∧ w' = w := by
  have h1 := run_textG w oa xs na ca hna ha
  have h2 := run_textG w ob ys nb cb hnb hb
  clear hna hnb
  go_enter Tryz.func55, Tryz.ntmps55
  go_wp2
  go_ret
  refine ⟨?_, rfl⟩
  rw [tx_eq]
  simp [mkT_inj]

theorem named_any (w : World) (s : Tx) : Calls Tryz.prog 49 #[.string s] w fun e w' => e = .returned (.bool (good s.data.toList)) ∧ w' = w := by
  have hl : s.data.toList.length = s.size := by rw [Array.length_toList]; rfl
  by_cases h1 : 1 ≤ s.size
  · by_cases h2 : s.size ≤ 32
    · go_enter Tryz.func49, Tryz.ntmps49
      go_wp2
      go_ret
      exact ⟨by simp [good, hl, h1, h2]; omega, rfl⟩
    · go_enter Tryz.func49, Tryz.ntmps49
      go_wp2
      go_ret
      exact ⟨by simp [good, hl, h1, h2]; omega, rfl⟩
  · go_enter Tryz.func49, Tryz.ntmps49
    go_wp2
    go_ret
    exact ⟨by simp [good, hl, h1], rfl⟩

/-! ### the power -/
end Go.Proofs.YtgamhblkgojapaaGreatDoor
