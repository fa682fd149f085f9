import Derived.Test.YtclheacjhkoocaaF4
namespace Go.Proofs.Ytclheacjhkoocaa
open Go.RowKit
open Pk
set_option linter.unusedVariables false
set_option linter.unusedSimpArgs false

theorem same_eq (w : World) (oa : Option Addr) (na ca : Nat) (ob : Option Addr) (nb cb : Nat) (bs : List Nat) (hna : na = bs.length) (hnb : nb = bs.length) (ha : Row w oa bs) (hb : Row w ob bs) :
    Calls Try.prog 16 #[.slice oa na ca, .slice ob nb cb] w fun e w' => e = .returned (.bool true) ∧ w' = w := by
  have h1 := run_text w oa bs na ca hna ha
  have h2 := run_text w ob bs nb cb hnb hb
  clear hna hnb
  go_enter Try.func16, Try.ntmps16
  go_wp2
  go_ret
  exact ⟨by simp, rfl⟩

set_option maxRecDepth 10000 in
theorem sameTexts_any (w : World) (oa : Option Addr) (na ca : Nat) (ob : Option Addr) (nb cb : Nat) (sa sb : List ByteArray) (hna : na = sa.length) (hnb : nb = sb.length) (hla : na ≤ 140737488355328) (hlb : nb ≤ 140737488355328) (ha : RowS w oa sa) (hb : RowS w ob sb) :
    Calls Try.prog 13 #[.slice oa na ca, .slice ob nb cb] w fun e w' => (∃ B : Bool, e = .returned (.bool B) ∧ Hid (sa = sb → B = true)) ∧ Keeps (fun _ => False) w w' := by
  have HA : Hid (na = sa.length) := hna
  have HB : Hid (nb = sb.length) := hnb
  clear hna hnb
  by_cases hne : na = nb
  · subst hne
    go_enter Try.func13, Try.ntmps13
    go_wp2_with fail
    go_loopw [5] (fun i wr => ∃ k m : Nat, k ≤ na ∧ i = .int .i64 k ∧ wr = w.drewN m) (fun i _ => na - (intOf i).toNat)
    case atStart => exact ⟨0, 0, by omega, rfl, rfl⟩
    case round =>
      obtain ⟨k, m, hk, rfl, rfl⟩ := hrel
      by_cases h2 : k < na
      · have hka : k < sa.length := by have := HA.out; omega
        have hkb : k < sb.length := by have := HB.out; omega
        rcases ha with h0 | ⟨b1, off1, rfl, hc1⟩
        · rw [h0] at hka; simp at hka
        rcases hb with h0 | ⟨b2, off2, rfl, hc2⟩
        · rw [h0] at hkb; simp at hkb
        have d1 := hc1 k hka
        have d2 := hc2 k hkb
        obtain ⟨x, hx⟩ : ∃ x, x = sa.getD k ⟨#[]⟩ := ⟨_, rfl⟩
        obtain ⟨y, hy⟩ : ∃ y, y = sb.getD k ⟨#[]⟩ := ⟨_, rfl⟩
        rw [← hx] at d1
        rw [← hy] at d2
        have HX : Hid (x = sa.getD k ⟨#[]⟩) := hx
        have HY : Hid (y = sb.getD k ⟨#[]⟩) := hy
        clear hx hy hc1 hc2
        by_cases hxy : x.toList = y.toList
        · have hxy' : (x.toList == y.toList) = true := by simpa using hxy
          go_wp2
          go_quiet (fail)
          go_wp2
          go_roundw
          case rel => exact ⟨k + 1, _, by omega, by go_num, rfl⟩
          case measure => simp [intOf]; omega
        · have hxy' : (x.toList == y.toList) = false := by simpa using hxy
          go_wp2
          go_quiet (fail)
          go_wp2
          go_ret
          refine ⟨⟨false, rfl, fun e => ?_⟩, (keeps_drewN _ _ _).trans (keeps_drewN _ _ _)⟩
          exact absurd (by rw [HX.out, HY.out, e]) hxy
      · go_wp2
        go_ret
        exact ⟨⟨true, rfl, fun _ => rfl⟩, keeps_drewN _ _ _⟩
  · have hne' : ¬ ((na : Nat) : Int) = (nb : Nat) := by omega
    go_enter Try.func13, Try.ntmps13
    go_wp2
    go_ret
    refine ⟨⟨false, rfl, fun e => ?_⟩, Keeps.refl _ _⟩
    exact absurd (by rw [HA.out, HB.out, e]) hne

end Go.Proofs.Ytclheacjhkoocaa
