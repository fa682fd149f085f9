/- The chapter's second example. -/
import Derived.Test.YtodblodbeobgeaaD5
namespace Go.Proofs.Ytodblodbeobgeaa
open Go.RowKit Go.Sort Orl
set_option linter.unusedVariables false
set_option linter.unusedSimpArgs false

def tA : Tx := ⟨#[97]⟩
def tB : Tx := ⟨#[98]⟩
def tC : Tx := ⟨#[99]⟩
def tV : Tx := ⟨#[118]⟩
theorem ab_ne : ¬ tA = tB := by decide
theorem bc_ne : ¬ tB = tC := by decide
theorem ac_ne : ¬ tA = tC := by decide
def xL : List Ver := [⟨tA, 65536, tV, [tA, tB]⟩, ⟨tB, 131072, tV, [tB, tC]⟩, ⟨tC, 0, e0, []⟩]
def xG : List Ver := [⟨tC, 131072, tV, [tB, tC]⟩]
def xM : List Ver := [⟨tA, 65536, tV, [tA, tB]⟩, ⟨tB, 131072, tV, [tB, tC]⟩, ⟨tC, 131072, tV, [tB, tC]⟩]
theorem x_needs : needsV xL = [(tC, 131072)] := by decide
theorem x_mend : mendV xL xG = some xM := by decide
theorem x_none : mendV xL [] = none := by decide
theorem x_rab : rising lts [tA, tB] = true := by
  simp only [rising, lts_eq]; decide
theorem x_rbc : rising lts [tB, tC] = true := by
  simp only [rising, lts_eq]; decide
theorem x_formed : Formed xL := by
  refine ⟨by decide, by decide, ?_, ?_⟩
  · intro j hj
    have : j = 0 ∨ j = 1 ∨ j = 2 := by have : j < 3 := hj; omega
    rcases this with rfl | rfl | rfl
    · show oneB ⟨tA, 65536, tV, [tA, tB]⟩ = true
      unfold oneB; simp only [x_rab]; decide
    · show oneB ⟨tB, 131072, tV, [tB, tC]⟩ = true
      unfold oneB; simp only [x_rbc]; decide
    · decide
  · intro j k hj hk
    have : (j = 1 ∧ k = 0) ∨ (j = 2 ∧ k = 0) ∨ (j = 2 ∧ k = 1) := by have : j < 3 := hj; omega
    rcases this with ⟨rfl, rfl⟩ | ⟨rfl, rfl⟩ | ⟨rfl, rfl⟩ <;> decide
theorem x_formedM : Formed xM := by
  refine ⟨by decide, by decide, ?_, ?_⟩
  · intro j hj
    have : j = 0 ∨ j = 1 ∨ j = 2 := by have : j < 3 := hj; omega
    rcases this with rfl | rfl | rfl
    · show oneB ⟨tA, 65536, tV, [tA, tB]⟩ = true
      unfold oneB; simp only [x_rab]; decide
    · show oneB ⟨tB, 131072, tV, [tB, tC]⟩ = true
      unfold oneB; simp only [x_rbc]; decide
    · show oneB ⟨tC, 131072, tV, [tB, tC]⟩ = true
      unfold oneB; simp only [x_rbc]; decide
  · intro j k hj hk
    have : (j = 1 ∧ k = 0) ∨ (j = 2 ∧ k = 0) ∨ (j = 2 ∧ k = 1) := by have : j < 3 := hj; omega
    rcases this with ⟨rfl, rfl⟩ | ⟨rfl, rfl⟩ | ⟨rfl, rfl⟩ <;> decide
theorem x_whole : wholeB xL = false := wholeB_no fun h => by
  have := (needs_nil xL).2 h
  rw [x_needs] at this; cases this
theorem x_needsM : needsV xM = [] := by decide
theorem x_wholeM : wholeB xM = true := (wholeB_iff _).2 ((needs_nil xM).1 x_needsM)
theorem x_nil : formedB [] = false := formedB_no fun h => by have := h.pos; simp at this
end Go.Proofs.Ytodblodbeobgeaa
