/- The law's value: a key's among pairs. -/
import Derived.Test.YtghnhkhhpeoheaaS1
import Derived.Test.YtghnhkhhpeoheaaM1
namespace Go.Proofs.Ytghnhkhhpeoheaa
open Go.RowKit Go.Sort Orl
set_option linter.unusedVariables false
set_option linter.unusedSimpArgs false

/-- what value tells: the first pair's of that key -/
def valI (l : List Pr) (k : Tx) : Tx × Bool := match l.find? fun q => decide (q.1 = k) with
  | some q => (q.2, true)
  | none => (e0, false)
theorem find_first (l : List Pr) (k : Tx) (i : Nat) (hi : i < l.length) (ht : hasP (l.take i) k = false) (he : (l.getD i p0).1 = k) : valI l k = ((l.getD i p0).2, true) := by
  have h1 : (l.take i).find? (fun q => decide (q.1 = k)) = none := by
    rw [List.find?_eq_none]
    intro x hx hc
    have : hasP (l.take i) k = true := List.any_eq_true.2 ⟨x, hx, hc⟩
    rw [ht] at this
    cases this
  have h2 : l = l.take i ++ l.getD i p0 :: l.drop (i + 1) := by
    rw [show l.getD i p0 = l[i] by simp [List.getD_eq_getElem?_getD, hi], ← List.drop_eq_getElem_cons hi, List.take_append_drop]
  have h3 : l.find? (fun q => decide (q.1 = k)) = some (l.getD i p0) := by
    generalize hq : l.getD i p0 = q at h2 he
    rw [h2, List.find?_append, h1]
    simp [he]
  unfold valI
  rw [h3]
theorem find_none (l : List Pr) (k : Tx) (h : hasP l k = false) : valI l k = (e0, false) := by
  have : l.find? (fun q => decide (q.1 = k)) = none := by
    rw [List.find?_eq_none]
    intro x hx hc
    have : hasP l k = true := List.any_eq_true.2 ⟨x, hx, hc⟩
    rw [h] at this
    cases this
  unfold valI
  rw [this]
theorem hasP_take (l : List Pr) (k : Tx) (i : Nat) (hi : i < l.length) (ht : hasP (l.take i) k = false) (he : ¬ (l.getD i p0).1 = k) : hasP (l.take (i + 1)) k = false := by
  rw [take_succ_getD l i p0 hi]
  unfold hasP at ht ⊢
  rw [List.any_append, ht]
  simpa using he
set_option maxRecDepth 10000 in
theorem value_any (w : World) (o : Option Addr) (n c : Nat) (l : List Pr) (key : Tx) (hn : n = l.length) (hl : l.length ≤ 4398046511000) (hs : Sl PE w o c l) :
    Calls Try.prog 16 #[.slice o n c, .string key] w fun e w' => e = .returned (.tuple #[.string (valI l key).1, .bool (valI l key).2]) ∧ Keeps no w w' := by
  have HN : Hid (n = l.length) := hn
  have hA : (n : Int) ≤ 4398046511000 := by omega
  clear hn hl
  go_enter Try.func16, Try.ntmps16
  go_wp2_with fail
  go_loopw [6] (fun i wr => ∃ k m : Nat, k ≤ n ∧ i = .int .i64 k ∧ wr = w.drewN m ∧ Hid (hasP (l.take k) key = false)) (fun i _ => n - (intOf i).toNat)
  case atStart => exact ⟨0, 0, by omega, rfl, rfl, show hasP (l.take 0) key = false by simp [hasP]⟩
  case round =>
    obtain ⟨k, m, hk, rfl, rfl, HT⟩ := hrel
    by_cases h2 : k < n
    · have hka : k < l.length := by have := HN.out; omega
      obtain ⟨b1, off1, rfl, d1, d3⟩ := hs.atP hka
      rcases hx : l.getD k p0 with ⟨x1, x2⟩
      rw [hx] at d1 d3
      simp only at d1 d3
      have HX : Hid (l.getD k p0 = (x1, x2)) := hx
      have HK : Hid (k < l.length) := hka
      clear hx hka
      by_cases hxy : x1 = key
      · have hxy' : (x1.toList == key.toList) = true := by rw [tx_eq]; simpa using hxy
        have HXY : Hid (x1 = key) := hxy
        clear hxy
        go_wp2
        go_ret2
        have e := find_first l key k HK.out HT.out (by rw [HX.out]; exact HXY.out)
        rw [e, HX.out]
        exact ⟨rfl, (Keeps.refl _ _).drewN _⟩
      · have hxy' : (x1.toList == key.toList) = false := by rw [tx_eq]; simpa using hxy
        have HXY : Hid (¬ x1 = key) := hxy
        clear hxy
        go_wp2
        go_roundw
        case rel => exact ⟨k + 1, _, by omega, by go_num, rfl, hasP_take l key k HK.out HT.out (by rw [HX.out]; exact HXY.out)⟩
        case measure => simp [intOf]; omega
    · go_wp2
      go_ret2
      have e := find_none l key (by have := HT.out; rwa [List.take_of_length_le (by have := HN.out; omega)] at this)
      rw [e]
      exact ⟨rfl, (Keeps.refl _ _).drewN _⟩
end Go.Proofs.Ytghnhkhhpeoheaa
