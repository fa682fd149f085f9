/- sameLists. -/
import Derived.Test.YtaeajgjehfjkbaaC5
namespace Go.Proofs.Ytaeajgjehfjkbaa
open Go.RowKit
set_option linter.unusedVariables false
set_option linter.unusedSimpArgs false

/-- a list of slices, as it may be read -/
structure Lst (w : World) (o : Option Addr) (ls : List (LS UInt8)) : Prop where
  l : Row XE w o ls
  x : ∀ j, j < ls.length → Row BE w (ls.getD j ls0).o (ls.getD j ls0).xs
theorem Lst.keepsN {w w' : World} {o : Option Addr} {ls : List (LS UInt8)} (h : Lst w o ls) (hk : Keeps no w w') : Lst w' o ls := ⟨h.l.keepsN hk, fun j hj => (h.x j hj).keepsN hk⟩
theorem Held.lst {w w' : World} {oL : Option Addr} {cL : Nat} {ls : List (LS UInt8)} (h : Held w w' oL cL ls) : Lst w' oL ls := ⟨h.own.row, fun j hj => (h.each j hj).row⟩
theorem bods_eq {ls ms : List (LS UInt8)} (hl : ls.length = ms.length) (h : ∀ j, j < ls.length → (ls.getD j ls0).xs = (ms.getD j ls0).xs) : bods ls = bods ms := by
  apply List.ext_getElem
  · rw [bods_len, bods_len, hl]
  · intro j h1 h2
    rw [bods_len] at h1 h2
    have := h j h1
    simp [List.getD_eq_getElem?_getD, h1, h2] at this
    simpa [bods] using this
set_option maxRecDepth 100000 in
theorem sameLists_any (w : World) (oa : Option Addr) (na ca : Nat) (ob : Option Addr) (nb cb : Nat) (ls ms : List (LS UInt8)) (hna : na = ls.length) (hnb : nb = ms.length) (hlid : (na : Int) ≤ 16777216) (ha : Lst w oa ls) (hb : Lst w ob ms) :
    Calls Try.prog 14 #[.slice oa na ca, .slice ob nb cb] w fun e w' => e = .returned (.bool (decide (bods ls = bods ms))) ∧ Keeps no w w' := by
  have HA : Hid (Lst w oa ls ∧ na = ls.length) := ⟨ha, hna⟩
  have HB : Hid (Lst w ob ms ∧ nb = ms.length) := ⟨hb, hnb⟩
  clear ha hb hna hnb
  by_cases hlen : na = nb
  · subst hlen
    go_enter Try.func14, Try.ntmps14
    go_wp2_with fail
    go_loopw [5] (fun i wr => ∃ k : Nat, k ≤ na ∧ i = .int .i64 k ∧ Hid (Keeps no w wr ∧ ∀ j, j < k → (ls.getD j ls0).xs = (ms.getD j ls0).xs)) (fun i _ => na - (intOf i).toNat)
    case atStart => exact ⟨0, by omega, rfl, ⟨Keeps.refl _ _, fun j hj => by omega⟩⟩
    case round =>
      rename World => wr
      obtain ⟨k, hk, rfl, HI⟩ := hrel
      by_cases hlt : k < na
      · have hka : k < ls.length := by have := HA.out.2; omega
        have hkb : k < ms.length := by have := HB.out.2; omega
        have hLa := HA.out.1.keepsN HI.out.1
        have hLb := HB.out.1.keepsN HI.out.1
        obtain ⟨b1, f1, rfl, c1⟩ := rowX_at hLa.l hka
        obtain ⟨b2, f2, rfl, c2⟩ := rowX_at hLb.l hkb
        have r1 := hLa.x k hka
        have r2 := hLb.x k hkb
        obtain ⟨X, hX⟩ : ∃ X, X = ls.getD k ls0 := ⟨_, rfl⟩
        obtain ⟨Y, hY⟩ : ∃ Y, Y = ms.getD k ls0 := ⟨_, rfl⟩
        rw [← hX] at c1 r1
        rw [← hY] at c2 r2
        have HX : Hid (X = ls.getD k ls0) := hX
        have HY : Hid (Y = ms.getD k ls0) := hY
        have HR : Hid (Row BE wr X.o X.xs ∧ Row BE wr Y.o Y.xs) := ⟨r1, r2⟩
        obtain ⟨n1, hn1⟩ : ∃ n1, n1 = X.xs.length := ⟨_, rfl⟩
        obtain ⟨n2, hn2⟩ : ∃ n2, n2 = Y.xs.length := ⟨_, rfl⟩
        rw [← hn1] at c1
        rw [← hn2] at c2
        have HN1 : Hid (n1 = X.xs.length) := hn1
        have HN2 : Hid (n2 = Y.xs.length) := hn2
        obtain ⟨B, hB⟩ : ∃ B, B = decide (X.xs = Y.xs) := ⟨_, rfl⟩
        have HBB : Hid (B = decide (X.xs = Y.xs)) := hB
        have HSM : Hid (∀ m, Calls Try.prog 13 #[.slice X.o n1 X.c, .slice Y.o n2 Y.c] (wr.drewN m) fun e w' => e = .returned (.bool B) ∧ w' = wr.drewN m) := fun m => by
          rw [HBB.out]
          exact same_any _ X.o n1 X.c Y.o n2 Y.c X.xs Y.xs HN1.out HN2.out (HR.out.1.keepsN ((Keeps.refl _ _).drewN m)) (HR.out.2.keepsN ((Keeps.refl _ _).drewN m))
        clear r1 r2 hX hY hn1 hn2 hLa hLb hB hka hkb
        go_wp2_with fail
        go_quiet ((go_at_call 13; exact Calls.quiet_of_same (HSM.out _)))
        cases B with
        | true =>
          go_wp2_with fail
          go_roundw
          case rel =>
            refine ⟨k + 1, by omega, by go_num, ⟨HI.out.1.drewN _, fun j hj => ?_⟩⟩
            by_cases e : j = k
            · subst e; rw [← HX.out, ← HY.out]; exact of_decide_eq_true HBB.out.symm
            · exact HI.out.2 j (by omega)
          case measure => simp [intOf]; omega
        | false =>
          go_wp2_with fail
          go_ret
          refine ⟨?_, HI.out.1.drewN _⟩
          have : bods ls ≠ bods ms := fun h => by
            have h1 := congrArg (fun l => l.getD k []) h
            simp only [bods_at] at h1
            rw [← HX.out, ← HY.out] at h1
            exact of_decide_eq_false HBB.out.symm h1
          simp [this]
      · have hkn : k = na := by omega
        go_wp2_with fail
        go_ret
        refine ⟨?_, HI.out.1⟩
        have : bods ls = bods ms := bods_eq (by have := HA.out.2; have := HB.out.2; omega) (fun j hj => HI.out.2 j (by have := HA.out.2; omega))
        simp [this]
  · have hl2 : ¬ ((na : Int) = nb) := by omega
    go_enter Try.func14, Try.ntmps14
    go_wp2_with fail
    go_ret
    refine ⟨?_, Keeps.refl _ _⟩
    have : bods ls ≠ bods ms := fun h => by
      have h1 := congrArg List.length h
      rw [bods_len, bods_len, ← HA.out.2, ← HB.out.2] at h1
      exact hlen h1
    simp [this]
theorem sameLists_yes (w : World) (oa : Option Addr) (na ca : Nat) (ob : Option Addr) (nb cb : Nat) (ls ms : List (LS UInt8)) (hna : na = ls.length) (hnb : nb = ms.length) (hlid : (na : Int) ≤ 16777216) (ha : Lst w oa ls) (hb : Lst w ob ms) (he : bods ls = bods ms) :
    Calls Try.prog 14 #[.slice oa na ca, .slice ob nb cb] w fun e w' => e = .returned (.bool true) ∧ Keeps no w w' := by
  refine (sameLists_any w oa na ca ob nb cb ls ms hna hnb hlid ha hb).mono ?_
  rintro e w' ⟨rfl, hk⟩
  exact ⟨by simp [he], hk⟩
end Go.Proofs.Ytaeajgjehfjkbaa
