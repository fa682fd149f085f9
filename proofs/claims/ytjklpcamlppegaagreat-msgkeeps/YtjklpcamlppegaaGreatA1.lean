import Derived.Test.YtjklpcamlppegaaGreatKin
namespace Go.Proofs.YtjklpcamlppegaaGreat
open Go.RowKit Go.Sort Orl
set_option linter.unusedVariables false
set_option linter.unusedSimpArgs false

theorem take_succ_getD {α : Type} (l : List α) (k : Nat) (d : α) (h : k < l.length) : l.take (k + 1) = l.take k ++ [l.getD k d] := by
  rw [List.take_add_one]; simp [h]

set_option maxRecDepth 10000 in
theorem rising_any (w : World) (a : Option Addr) (n c : Nat) (xs : List Tx) (hn : n = xs.length) (hl : Small xs) (hs : Sl TE w a c xs) :
    Calls Tryz.prog 82 #[.slice a n c] w fun e w' => e = .returned (.bool (rising lts xs)) ∧ Keeps no w w' := by
  have HA : Hid (n = xs.length) := hn
  have hA : (n : Int) ≤ 100000 := by unfold Small at hl; omega
  clear hn hl
  obtain ⟨R, hR⟩ : ∃ R, rising lts xs = R := ⟨_, rfl⟩
  have HR : Hid (rising lts xs = R) := hR
  rw [hR]
  clear hR
  go_enter Tryz.func82, Tryz.ntmps82
  go_wp2_with fail
  go_loopw [3] (fun i wr => ∃ k m : Nat, k ≤ n ∧ i = .int .i64 ((k : Int) + 1) ∧ wr = w.drewN m ∧ Hid (∀ j, j < k → j + 1 < xs.length → lts (xs.getD j e0) (xs.getD (j + 1) e0) = true)) (fun i _ => n + 1 - (intOf i).toNat)
  case atStart => exact ⟨0, 0, by omega, rfl, rfl, fun j hj => absurd hj (Nat.not_lt_zero _)⟩
  case round =>
    obtain ⟨k, m, hk, rfl, rfl, HT⟩ := hrel
    by_cases h2 : k + 1 < n
    · have hka : k + 1 < xs.length := by have := HA.out; omega
      obtain ⟨b1, off1, rfl, d1⟩ := hs.at (j := k) (by omega)
      obtain ⟨b2, off2, e2, d2⟩ := hs.at hka
      cases e2
      obtain ⟨x, hx⟩ : ∃ x, x = xs.getD k e0 := ⟨_, rfl⟩
      obtain ⟨y, hy⟩ : ∃ y, y = xs.getD (k + 1) e0 := ⟨_, rfl⟩
      rw [← hx] at d1
      rw [← hy] at d2
      have HX : Hid (x = xs.getD k e0) := hx
      have HY : Hid (y = xs.getD (k + 1) e0) := hy
      clear hx hy hka
      have h3 : (k : Int) + 1 < n := by omega
      cases hxy : Op.bytesLess x.toList y.toList
      · go_wp2
        go_quiet (fail)
        go_wp2
        go_ret
        refine ⟨?_, ((Keeps.refl _ _).drewN _).drewN _⟩
        have hf := rising_fail (lt := lts) e0 xs k (by have := HA.out; omega) (by rw [← HX.out, ← HY.out]; exact hxy)
        rw [← HR.out, hf]; rfl
      · go_wp2
        go_quiet (fail)
        go_wp2
        go_roundw
        case rel =>
          refine ⟨k + 1, _, by omega, by go_num, rfl, fun j hj hj2 => ?_⟩
          by_cases e : j = k
          · subst e; rw [← HX.out, ← HY.out]; exact hxy
          · exact HT.out j (by omega) hj2
        case measure => simp [intOf]; omega
    · have h3 : ¬ (k : Int) + 1 < n := by omega
      go_wp2
      go_ret
      refine ⟨?_, (Keeps.refl _ _).drewN _⟩
      have hf := rising_of_all (lt := lts) e0 xs (fun i hi => HT.out i (by have := HA.out; omega) hi)
      rw [← HR.out, hf]; rfl

end Go.Proofs.YtjklpcamlppegaaGreat
