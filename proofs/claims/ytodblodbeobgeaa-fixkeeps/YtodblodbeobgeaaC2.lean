/- The program's mayBe. -/
import Derived.Test.YtodblodbeobgeaaC1
namespace Go.Proofs.Ytodblodbeobgeaa
open Go.RowKit Go.Sort Orl
set_option linter.unusedVariables false
set_option linter.unusedSimpArgs false

set_option maxRecDepth 10000 in
theorem mayBe_any (w : World) (r : RV) (v : Ver) (hf : FitV v) (h : VerOf w r v) :
    Calls Try.prog 26 #[.agg #[.string r.key, .int .u64 (r.id : Nat), .string r.val, .slice r.o r.n r.c]] w fun e w' => e = .returned (.bool (oneB v)) ∧ Keeps no w w' := by
  obtain ⟨vk, vi, vv, vks⟩ := v
  obtain ⟨k, i, x, o, n, c⟩ := r
  obtain ⟨h1, h2, h3, hn, hs⟩ := h
  simp only at h1 h2 h3 hn hs ⊢
  subst h1 h2 h3
  obtain ⟨fi, fk, fv, fl, fs⟩ := hf
  simp only at fi fk fv fl fs
  have HN : Hid (n = vks.length) := hn
  have hk0 : Keeps no w (w.alloc (.cells #[.string k, .int .u64 (i : Nat), .string x, .slice o n c] 32)) := (Keeps.refl _ _).alloc _
  have HK0 : Hid (Keeps no w (w.alloc (.cells #[.string k, .int .u64 (i : Nat), .string x, .slice o n c] 32))) := hk0
  have hn' : (n : Int) ≤ 8796093022000 := by omega
  by_cases h0 : i = 0
  · subst h0
    have HO := oneB_zero ⟨k, 0, x, vks⟩ rfl
    simp only at HO
    rw [← hn] at HO
    rw [HO]
    clear HO hn hk0
    by_cases hx : x = e0
    · have hx' : (x.toList == (⟨#[]⟩ : ByteArray).toList) = true := by rw [tx_eq]; exact decide_eq_true hx
      have hx2 : (x.toList).isEmpty = true := by rw [hx, e0_toList]; rfl
      rw [decide_eq_true hx]
      clear hx
      by_cases hn0 : n = 0
      · rw [decide_eq_true hn0]
        subst hn0
        go_enter Try.func26, Try.ntmps26
        go_wp2
        go_ret
        exact ⟨rfl, (Keeps.refl _ _).alloc _⟩
      · have hn0' : ((n : Int) == 0) = false := by simp; omega
        have hn0'' : ¬ (n : Int) = 0 := by omega
        rw [decide_eq_false hn0]
        go_enter Try.func26, Try.ntmps26
        go_wp2
        go_ret
        exact ⟨rfl, (Keeps.refl _ _).alloc _⟩
    · have hx' : (x.toList == (⟨#[]⟩ : ByteArray).toList) = false := by rw [tx_eq]; exact decide_eq_false hx
      have hx2 : (x.toList).isEmpty = false := by rw [← Bool.not_eq_true]; intro h; exact hx ((toList_inj x e0).1 (by rw [e0_toList]; simpa using h))
      rw [decide_eq_false hx]
      clear hx
      go_enter Try.func26, Try.ntmps26
      go_wp2
      go_ret
      exact ⟨rfl, (Keeps.refl _ _).alloc _⟩
  · have HO := oneB_pos ⟨k, i, x, vks⟩ h0
    simp only at HO
    rw [← hn] at HO
    rw [HO]
    have h0' : ((i : Int) == 0) = false := by simp; omega
    have h0'' : ¬ (i : Int) = 0 := by omega
    have hID := fun W => isWrite_any i fi W
    have HRS : Hid (Calls Try.prog 40 #[.slice o n c] (w.alloc (.cells #[.string k, .int .u64 (i : Nat), .string x, .slice o n c] 32)) fun e w' => e = .returned (.bool (rising lts vks)) ∧ Keeps no _ w') := pRising_any _ o n c vks hn fl (hs.keepsN hk0)
    have HHS : Hid (rising lts vks = true → n ≤ 1024 → ∀ W, Keeps no w W → Calls Try.prog 41 #[.string k, .slice o n c] W fun e w' => e = .returned (.bool (inn vks k)) ∧ Keeps no W w') := fun hr hn3 W hW => among_any W o n c vks k hn (by unfold Small; omega) (hs.keepsN hW) hr
    clear HO hn hk0 hs fs
    generalize rising lts vks = B1 at HRS HHS ⊢
    generalize inn vks k = B2 at HHS ⊢
    generalize decide (65536 ≤ i) = B0 at hID ⊢
    cases B0 with
    | false =>
      go_enter Try.func26, Try.ntmps26
      go_wp2_with fail
      refine (hID _).mono ?_
      rintro e w2 ⟨rfl, hw2⟩
      subst w2
      go_wp2_with fail
      go_ret
      exact ⟨rfl, HK0.out⟩
    | true =>
      by_cases hn3 : n ≤ 1024
      · have hn3' : decide ((n : Int) ≤ 1024) = true := by simp; omega
        have hn3'' : (n : Int) ≤ 1024 := by omega
        rw [decide_eq_true hn3]
        cases B1 with
        | false =>
          go_enter Try.func26, Try.ntmps26
          go_wp2_with fail
          refine (hID _).mono ?_
          rintro e w2 ⟨rfl, hw2⟩
          subst w2
          go_wp2_with fail
          refine Calls.mono HRS.out ?_
          rintro e w2 ⟨rfl, hk2⟩
          have HK2 : Hid (Keeps no w w2) := HK0.out.trans hk2
          clear hk2 HK0
          go_wp2_with fail
          go_ret
          exact ⟨rfl, HK2.out⟩
        | true =>
          have HAM : Hid (∀ W, Keeps no w W → Calls Try.prog 41 #[.string k, .slice o n c] W fun e w' => e = .returned (.bool B2) ∧ Keeps no W w') := HHS.out rfl hn3
          clear HHS
          go_enter Try.func26, Try.ntmps26
          go_wp2_with fail
          refine (hID _).mono ?_
          rintro e w2 ⟨rfl, hw2⟩
          subst w2
          go_wp2_with fail
          refine Calls.mono HRS.out ?_
          rintro e w2 ⟨rfl, hk2⟩
          have hb2 := hk2.at (blk_new w (.cells #[.string k, .int .u64 (i : Nat), .string x, .slice o n c] 32)) id
          have g0 := cell_of_blk hb2 0
          have g3 := cell_of_blk hb2 3
          have HK2 : Hid (Keeps no w w2) := HK0.out.trans hk2
          clear hk2 HK0 hb2
          go_wp2_with fail
          refine Calls.mono (HAM.out _ HK2.out) ?_
          rintro e w3 ⟨rfl, hk3⟩
          have HK3 : Hid (Keeps no w w3) := HK2.out.trans hk3
          clear hk3 g0 g3 HK2 HAM
          go_wp2_with fail
          go_ret
          exact ⟨rfl, HK3.out⟩
      · have hn3' : decide ((n : Int) ≤ 1024) = false := by simp; omega
        have hn3'' : ¬ (n : Int) ≤ 1024 := by omega
        rw [decide_eq_false hn3]
        go_enter Try.func26, Try.ntmps26
        go_wp2_with fail
        refine (hID _).mono ?_
        rintro e w2 ⟨rfl, hw2⟩
        subst w2
        go_wp2_with fail
        go_ret
        exact ⟨rfl, HK0.out⟩
end Go.Proofs.Ytodblodbeobgeaa
