import Derived.Test.YtlpfoieoopjmgaaG1
import Derived.Test.YtlpfoieoopjmgaaD2
namespace Go.Proofs.Ytlpfoieoopjmgaa
open Go.RowKit
set_option linter.unusedVariables false
set_option linter.unusedSimpArgs false

set_option maxRecDepth 10000 in
theorem groupP_yes (w : World) (a : Option Addr) (n c : Nat) (xs : List Pr) (P : Nat) (hn : n = xs.length) (hfit : (xs.length : Int) * 32 ≤ 140737488351232) (hsz : ∀ x ∈ xs, x.1.size ≤ maxLen ∧ x.2.size ≤ maxLen) (hs : Sl PE w a c xs) (h1 : 0 < P) (h2 : P ≤ 64) :
    Calls Try.prog 13 #[.slice a n c, .int .i64 (P : Int)] w fun e w' => ∃ o m c gs, e = .returned (.tuple #[.slice o m c, .int .i64 0]) ∧ Hid (m = gs.length ∧ Told PE HE fstP w P xs o c gs w') := by
  have HF : Hid (n = xs.length ∧ (xs.length : Int) * 32 ≤ 140737488351232 ∧ (∀ x ∈ xs, x.1.size ≤ maxLen ∧ x.2.size ≤ maxLen) ∧ Sl PE w a c xs) := ⟨hn, hfit, hsz, hs⟩
  clear hn hfit hsz hs
  go_enter Try.func13, Try.ntmps13
  go_wp2_with (first | (go_at_call 19; go_must (refine (may_yes P h1 h2 _).mono ?_); rintro e w' ⟨rfl, hw'⟩; subst w') | (go_at_call 23; go_loud (refine (dealP_any _ a n c xs P HF.out.1 HF.out.2.1 HF.out.2.2.1 HF.out.2.2.2 h1 h2).mono ?_); rintro e w1 ⟨bA, cA, L, rfl, hD⟩; have HD0 : Hid _ := hD; clear hD))
  go_loopw [6, 16] (fun s6 i wr => ∃ (k m : Nat) (o : Option Addr) (cc : Nat), k ≤ P ∧ i = .int .i64 k ∧ s6 = .slice o m cc ∧ Hid (m = (gsl L k).length ∧ Deal PE YE fstP w P xs (some ⟨bA, 0, none⟩) cA L wr ∧ Own HE wr o cc (gsl L k) ∧ New w o)) (fun _ i _ => P - (intOf i).toNat)
  case atStart => exact ⟨0, 0, none, 0, by omega, rfl, rfl, ⟨rfl, HD0.out, own_nil _, new_none _⟩⟩
  case round =>
    obtain ⟨k, m, o, cc, hk, rfl, rfl, HI⟩ := hrel
    by_cases hlt : k < P
    · obtain ⟨g1, g2, g3, g4⟩ := HI.out
      obtain ⟨d2, ho, hle⟩ := g2.at kindP k hlt
      obtain ⟨s, hsq⟩ : ∃ s, s = L.getD k ls0 := ⟨_, rfl⟩
      rw [← hsq] at d2 ho hle
      obtain ⟨o2, c2, ys⟩ := s
      simp only at d2 ho hle
      obtain ⟨m2, hm2⟩ : ∃ m2, m2 = ys.length := ⟨_, rfl⟩
      rw [← hm2] at d2
      have HS : Hid (m2 = ys.length ∧ L.getD k ls0 = ⟨o2, c2, ys⟩) := ⟨hm2, hsq.symm⟩
      have hmI : (m2 : Int) ≤ 4398046510976 := by have := HF.out.2.1; omega
      have hmk : m ≤ 64 := by have := gsl_length L k; omega
      have HB : Hid (((gsl L k).length + [(⟨k, o2, c2, ys⟩ : GS Pr)].length) * HE.nb ≤ 140737488355328 ∧ (gsl L k).length + [(⟨k, o2, c2, ys⟩ : GS Pr)].length ≤ 140737488355328) := ⟨by simp [HE]; omega, by simp; omega⟩
      clear g1 g2 g3 g4 ho hle hsq hm2
      by_cases h0 : m2 = 0
      · have hxs : (L.getD k ls0).xs = [] := by rw [HS.out.2]; exact List.length_eq_zero_iff.1 (by rw [← HS.out.1]; exact h0)
        have HX : Hid ((L.getD k ls0).xs = []) := hxs
        clear hxs
        subst h0
        go_wp2_with fail
        go_roundw
        case rel =>
          refine ⟨k + 1, m, o, cc, by omega, by go_num, rfl, ?_⟩
          have := HI.out
          rw [← gsl_no L k HX.out] at this
          exact this
        case measure => simp [intOf] <;> omega
      · have h0' : (0 : Int) < m2 := by omega
        have HX : Hid ((L.getD k ls0).xs ≠ []) := by
          show _ ≠ _
          rw [HS.out.2]
          intro e
          have := HS.out.1
          rw [show ys = [] from e] at this
          exact h0 this
        go_wp2_with (at_builtin; go_loud (refine wpList_app okH rfl _ _ rfl _ _ _ (gsl L k) rfl HI.out.1 (HI.out.2.2.1.keepsN ((Keeps.refl _ _).alloc _)) _ _ _ [⟨k, o2, c2, ys⟩] rfl rfl (fun h => by cases h) (lit_one (E := HE) _ _ _ (by simp [HE, GS.enc, HS.out.1])).row HB.out.1 HB.out.2 ?_); intro o5 c5 w5 ho5 hap5)
        go_roundw
        case rel =>
          obtain ⟨g1, g2, g3, g4⟩ := HI.out
          have hm := (g2.keepsN ((Keeps.refl _ _).alloc (.cells #[.int .i64 (k : Int), .slice o2 m2 c2] 43))).more (G := HE) (by decide) (by decide) (g3.keepsN ((Keeps.refl _ _).alloc _)) g4 hap5
          refine ⟨k + 1, m + 1, o5, c5, by omega, by go_num, rfl, ?_, hm.1, ?_, hm.2⟩
          · rw [gsl_yes L k HX.out]; simp; exact g1
          · rw [gsl_yes L k HX.out, HS.out.2]; exact ho5
        case measure => simp [intOf] <;> omega
    · go_wp2_with fail
      go_ret2
      obtain rfl : k = P := by omega
      obtain ⟨g1, g2, g3, g4⟩ := HI.out
      exact ⟨o, m, cc, gsl L k, rfl, g1, told_of g2 g3 g4⟩

theorem groupP_no (w : World) (a : Option Addr) (n c : Nat) (z : Int) (h : ¬ (1 ≤ z ∧ z ≤ 64)) :
    Calls Try.prog 13 #[.slice a n c, .int .i64 z] w fun e w' => e = .returned (.tuple #[.slice none 0 0, .int .i64 1]) ∧ w' = w := by
  have H : Hid (¬ (1 ≤ z ∧ z ≤ 64)) := h
  clear h
  go_enter Try.func13, Try.ntmps13
  go_wp2_with (go_at_call 19; go_must (refine (may_no z H.out _).mono ?_); rintro e w' ⟨rfl, rfl⟩)
  go_ret2
  exact ⟨rfl, rfl⟩

end Go.Proofs.Ytlpfoieoopjmgaa
