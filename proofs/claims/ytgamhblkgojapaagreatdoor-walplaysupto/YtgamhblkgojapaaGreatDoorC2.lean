/- The program's May, whole. -/
import Derived.Test.YtgamhblkgojapaaGreatDoorC1
namespace Go.Proofs.YtgamhblkgojapaaGreatDoor
open Go.RowKit Go.Sort Orl Pk
set_option linter.unusedVariables false
set_option linter.unusedSimpArgs false

theorem may_1 {r : Rec} (h : r.kind = 1) (hi : 65536 ≤ r.id) : may r = (mayK r.keys && (decide (1 ≤ r.pairs.length) && walkP r.pairs r.keys)) := by
  unfold may
  rw [if_pos h, decide_eq_true hi]
  by_cases hk : mayK r.keys = true
  · rw [hk, mayP_walk _ _ (mayK_all hk).2.2.2]; rfl
  · have : mayK r.keys = false := by simpa using hk
    rw [this]; rfl
theorem may_2 {r : Rec} (h : r.kind = 2) (hi : 65536 ≤ r.id) : may r = (decide (r.pairs.length = 0) && decide (r.keys.length = 0)) := by
  unfold may
  rw [if_neg (by rw [h]; decide), if_pos h, decide_eq_true hi]
  simp
theorem may_low {r : Rec} (hi : r.id < 65536) : may r = false := by
  unfold may
  rw [decide_eq_false (by omega)]; rfl
theorem may_else {r : Rec} (h1 : r.kind ≠ 1) (h2 : r.kind ≠ 2) : may r = false := by
  unfold may
  rw [if_neg h1, if_neg h2]; simp

set_option maxRecDepth 10000 in
theorem May_any (w : World) (k : Int) (i : Nat) (op : Option Addr) (np cp : Nat) (ok : Option Addr) (nk ck : Nat) (r : Rec) (h : IsC w ⟨k, i, op, np, cp, ok, nk, ck⟩ r) :
    Calls Tryz.prog 61 #[.agg #[.int .i64 k, .int .u64 (i : Nat), .slice op np cp, .slice ok nk ck]] w fun e w' => e = .returned (.bool (may r)) ∧ Keeps no w w' := by
  have H : Hid (IsC w ⟨k, i, op, np, cp, ok, nk, ck⟩ r) := h
  have ka : Keeps no w (w.alloc (.cells #[.int .i64 k, .int .u64 (i : Nat), .slice op np cp, .slice ok nk ck] 41)) := (Keeps.refl _ _).alloc _
  have hid : i < 18446744073709551616 := by have := h.fit.id; rw [← h.i] at this; exact this
  have hnp : (np : Int) ≤ 4398046511000 := by have := h.fit.plen; have h2 := h.np; simp only at h2; omega
  have hnk : (nk : Int) ≤ 8796093022000 := by have := h.fit.klen; have h2 := h.nk; simp only at h2; omega
  have HI : Hid (i = r.id) := h.i
  have HKD : Hid (k = r.kind) := h.k
  clear h
  obtain ⟨R, hR⟩ : ∃ R, may r = R := ⟨_, rfl⟩
  have HR : Hid (may r = R) := hR
  rw [hR]
  clear hR
  by_cases hlow : i < 65536
  · have hlow2 : (i : Int) < 65536 := by omega
    have : R = false := by rw [← HR.out]; exact may_low (by rw [← HI.out]; exact hlow)
    subst this
    go_enter Tryz.func61, Tryz.ntmps61
    go_wp2_with fail
    go_ret
    exact ⟨rfl, ka⟩
  have hlow2 : ¬ (i : Int) < 65536 := by omega
  have HLOW : Hid (65536 ≤ r.id) := by show 65536 ≤ r.id; have := HI.out; omega
  by_cases h1 : k = 1
  · subst h1
    have hm := may_1 (r := r) HKD.out.symm HLOW.out
    rw [HR.out] at hm
    have HM : Hid (R = (mayK r.keys && (decide (1 ≤ r.pairs.length) && walkP r.pairs r.keys))) := hm
    clear hm
    go_enter Tryz.func61, Tryz.ntmps61
    go_wp2_with fail
    refine (mayKeys_any _ ok nk ck r.keys H.out.nk (H.out.kys.keepsN ka) H.out.fit.keys).mono ?_
    rintro e w2 ⟨rfl, hw2⟩
    subst w2
    cases hmk : mayK r.keys
    · have : R = false := by rw [HM.out, hmk]; rfl
      subst this
      go_wp2_with fail
      go_ret
      exact ⟨rfl, ka⟩
    · have hnk2 : (nk : Int) ≤ 1024 := by have := (mayK_all hmk).1; have h2 := H.out.nk; simp only at h2; omega
      have HMM : Hid (R = (decide (1 ≤ r.pairs.length) && walkP r.pairs r.keys)) := by show _ = _; rw [HM.out, hmk]; rfl
      clear hmk
      go_wp2_with fail
      refine (mayPairs_any _ op np cp r.pairs H.out.np (H.out.prs.keepsN ka) H.out.fit.pairs hnp ok nk ck r.keys H.out.nk (H.out.kys.keepsN ka) hnk2).mono ?_
      rintro e w2 ⟨rfl, hk2⟩
      rw [← HMM.out]
      go_wp2_with fail
      go_ret
      exact ⟨rfl, ka.trans hk2⟩
  · by_cases h2 : k = 2
    · subst h2
      have hm := may_2 (r := r) HKD.out.symm HLOW.out
      rw [HR.out] at hm
      have HM : Hid (R = (decide (np = 0) && decide (nk = 0))) := by
        show _ = _
        have e1 := H.out.np; have e2 := H.out.nk
        simp only at e1 e2
        rw [hm, e1, e2]
      clear hm
      by_cases h3 : np = 0
      · by_cases h4 : nk = 0
        · subst h3; subst h4
          go_enter Tryz.func61, Tryz.ntmps61
          go_wp2_with fail
          go_ret
          exact ⟨by rw [HM.out]; rfl, ka⟩
        · have h4' : ((nk : Int) == 0) = false := by simp; omega
          subst h3
          have : R = false := by rw [HM.out]; simp [h4]
          subst this
          go_enter Tryz.func61, Tryz.ntmps61
          go_wp2_with fail
          go_ret
          exact ⟨rfl, ka⟩
      · have h3' : ((np : Int) == 0) = false := by simp; omega
        have : R = false := by rw [HM.out]; simp [h3]
        subst this
        go_enter Tryz.func61, Tryz.ntmps61
        go_wp2_with fail
        go_ret
        exact ⟨rfl, ka⟩
    · have : R = false := by rw [← HR.out]; exact may_else (by rw [← HKD.out]; exact h1) (by rw [← HKD.out]; exact h2)
      subst this
      have h1b : (k == 1) = false := by simpa using h1
      have h2b : (k == 2) = false := by simpa using h2
      go_enter Tryz.func61, Tryz.ntmps61
      go_wp2_with fail
      go_ret
      exact ⟨rfl, ka⟩
end Go.Proofs.YtgamhblkgojapaaGreatDoor
