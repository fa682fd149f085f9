/- The program's Needs, Cut. -/
import Derived.Test.YtodblodbeobgeaaC5
namespace Go.Proofs.Ytodblodbeobgeaa
open Go.RowKit Go.Sort Orl
set_option linter.unusedVariables false
set_option linter.unusedSimpArgs false

set_option maxRecDepth 10000 in
set_option maxHeartbeats 2000000 in
theorem pNeeds_any (w : World) (o : Option Addr) (n c : Nat) (rs : List RV) (vs : List Ver) (hn : n = vs.length) (hf : FitL vs) (hv : Vers w o c rs vs) :
    Calls Try.prog 13 #[.slice o n c] w fun e w' => ∃ u, e = .returned u ∧ NeedTo w vs u w' := by
  have HN : Hid (n = vs.length) := hn
  have hA : (n : Int) ≤ 2199023255500 := by have := hf.len; omega
  have HF : Hid (FitL vs) := hf
  have HV : Hid (Vers w o c rs vs) := hv
  have HFO : Hid (Calls Try.prog 11 #[.slice o n c] w fun e w' => e = .returned (.bool (formedB vs)) ∧ Keeps no w w') := pFormed_any w o n c rs vs hn hf hv
  clear hn hf hv
  go_enter Try.func13, Try.ntmps13
  go_wp2_with fail
  refine Calls.mono HFO.out ?_
  rintro e w1 ⟨rfl, hk1⟩
  have HK1 : Hid (Keeps no w w1) := hk1
  clear hk1 HFO
  obtain ⟨B, hB⟩ : ∃ B, B = formedB vs := ⟨_, rfl⟩
  have HB : Hid (B = formedB vs) := hB
  rw [← hB]
  clear hB
  cases B with
  | false =>
    go_wp2_with fail
    go_ret2
    exact ⟨_, rfl, .inl ⟨HB.out.symm, rfl, HK1.out⟩⟩
  | true =>
    have HFM : Hid (Formed vs) := (formedB_iff vs).1 HB.out.symm
    have hn1024 : (n : Int) ≤ 1024 := by have := HFM.out.most; have := HN.out; omega
    have HGR : Hid (Calls Try.prog 29 #[.slice o n c] w1 fun e w' => ∃ b, e = .returned (.map (some b)) ∧ GrTo w1 vs b w') := greatest_any w1 o n c rs vs HN.out HF.out HFM.out (HV.out.keepsN HK1.out)
    go_wp2_with fail
    refine Calls.mono HGR.out ?_
    rintro e w2 ⟨B, rfl, hgr⟩
    obtain ⟨L, hM, hG, hK⟩ := hgr
    have HM : Hid (IsMp KT Vd w2 B L ∧ Gm vs (mostV vs) L ∧ Keeps no w w2) := ⟨hM, hG, HK1.out.trans hK⟩
    clear hM hG hK HGR HK1
    go_wp2_with fail
    go_loopw [5, 16] (fun s5 s16 wr => ∃ (i : Nat) (u : Value), i ≤ n ∧ s16 = .int .i64 i ∧ s5 = u ∧ Hid (∃ o n c, u = .slice o n c ∧ n = (needsTo vs i).length ∧ Own WE wr o c (needsTo vs i) ∧ New w2 o ∧ Keeps no w2 wr)) (fun _ s16 _ => n - (intOf s16).toNat)
    case atStart => exact ⟨0, _, by omega, rfl, rfl, none, 0, 0, rfl, rfl, own_nil _, new_none _, Keeps.refl _ _⟩
    case round =>
      rename World => wr
      obtain ⟨i, u, hi, rfl, rfl, HL⟩ := hrel
      obtain ⟨oo, no', co, rfl, hno, hoo, hnoo, hkk⟩ := HL.out
      have HO : Hid (no' = (needsTo vs i).length ∧ Own WE wr oo co (needsTo vs i) ∧ New w2 oo ∧ Keeps no w2 wr) := ⟨hno, hoo, hnoo, hkk⟩
      clear HL hno hoo hnoo hkk
      by_cases hlt : i < n
      · have hlt' : (i : Int) < n := by omega
        have hil : i < vs.length := by have := HN.out; omega
        have HKR : Hid (Keeps no w wr) := HM.out.2.2.trans HO.out.2.2.2
        obtain ⟨b, off, r, hob, d0, d1, d2, d3, hver⟩ := (HV.out.keepsN HKR.out).agg hil
        subst hob
        have HNS : Hid (needsTo vs (i + 1) = needsTo vs i ++ (if (vs.getD i v0).id < mostV vs (vs.getD i v0) then [((vs.getD i v0).key, mostV vs (vs.getD i v0))] else [])) := needsTo_succ vs i hil
        have HE : Hid (r.key = (vs.getD i v0).key ∧ r.id = (vs.getD i v0).id ∧ r.key.size ≤ maxLen ∧ fnd r.key L = some (mostV vs (vs.getD i v0))) := ⟨hver.key, hver.id, by rw [hver.key]; exact Nat.le_trans (HF.out.at hil).key maxLen_ge, by rw [hver.key]; exact HM.out.2.1.at' i hil⟩
        clear hver
        obtain ⟨rk, ri, rv, ro, rn, rc⟩ := r
        simp only at d0 d1 d2 d3 HE
        rw [← HE.out.1, ← HE.out.2.1] at HNS
        generalize mostV vs (vs.getD i v0) = M at HE HNS
        have HKA : Hid (Keeps no w2 (wr.alloc (.cells #[.string rk, .int .u64 (ri : Nat), .string rv, .slice ro rn rc] 32))) := HO.out.2.2.2.alloc _
        have hlk := lookTD (HM.out.1.keepsN HKA.out) HE.out.2.2.1 HE.out.2.2.2
        have HLB : Hid ((needsTo vs i).length ≤ 1024) := by have := needsTo_len vs i; have h := hn1024; show _ ≤ _; omega
        have HOW : Hid (Own WE (wr.alloc (.cells #[.string rk, .int .u64 (ri : Nat), .string rv, .slice ro rn rc] 32)) oo co (needsTo vs i)) := HO.out.2.1.keepsN ((Keeps.refl no wr).alloc _)
        clear HE hil
        by_cases h5 : ri < M
        · have e5 : (ri : Int) < (M : Int) := by omega
          have HNN : Hid (needsTo vs (i + 1) = needsTo vs i ++ [(rk, M)]) := by show _ = _; rw [HNS.out, if_pos h5]
          clear HNS
          have HROW : Hid (Row WE ((wr.alloc (.cells #[.string rk, .int .u64 (ri : Nat), .string rv, .slice ro rn rc] 32)).alloc (.cells #[.string rk, .int .u64 (M : Nat)] 41)) (some ⟨wr.heap.size + 1, 0, none⟩) [(rk, M)]) := by
            have h := (own_oneW (wr.alloc (.cells #[.string rk, .int .u64 (ri : Nat), .string rv, .slice ro rn rc] 32)) rk M).row
            have e : (wr.alloc (.cells #[.string rk, .int .u64 (ri : Nat), .string rv, .slice ro rn rc] 32)).heap.size = wr.heap.size + 1 := by simp
            rw [e] at h
            exact h
          go_wp2_with (at_builtin; refine wpList_app okW rfl _ _ rfl _ _ _ (needsTo vs i) rfl HO.out.1 (HOW.out.keepsN ((Keeps.refl no (wr.alloc (.cells #[.string rk, .int .u64 (ri : Nat), .string rv, .slice ro rn rc] 32))).alloc _)) _ _ _ [(rk, M)] rfl rfl (fun h => by cases h) HROW.out (by have := HLB.out; simp [WE]; omega) (by have := HLB.out; simp; omega) ?_; intro os6 cs6 ws6 hos6 haps6)
          go_roundw
          case rel =>
            have k4 := haps6.new (w0 := w2) HO.out.2.2.1 (HKA.out.alloc _)
            refine ⟨i + 1, _, by omega, by go_num, rfl, os6, _, cs6, rfl, ?_, ?_, k4.1, k4.2⟩
            · rw [HNN.out, HO.out.1]; simp
            · rw [HNN.out]; exact hos6
          case measure => simp [intOf]; omega
        · have e5 : ¬ (ri : Int) < (M : Int) := by omega
          have HNN : Hid (needsTo vs (i + 1) = needsTo vs i) := by show _ = _; rw [HNS.out, if_neg h5, List.append_nil]
          clear HNS
          go_wp2_with fail
          go_roundw
          case rel => exact ⟨i + 1, _, by omega, by go_num, rfl, oo, no', co, rfl, by rw [HNN.out]; exact HO.out.1, by rw [HNN.out]; exact HOW.out, HO.out.2.2.1, HKA.out⟩
          case measure => simp [intOf]; omega
      · have hlt' : ¬ (i : Int) < n := by omega
        have H1 : Hid (NeedTo w vs (.tuple #[.slice oo no' co, .int .i64 0]) wr) := by
          have h := HO.out
          rw [show i = vs.length by have := HN.out; omega, needsTo_all] at h
          exact .inr ⟨HB.out.symm, oo, no', co, rfl, h.1, h.2.1, h.2.2.1.of_le HM.out.2.2.size, HM.out.2.2.trans h.2.2.2⟩
        clear HO HM
        go_wp2_with fail
        go_ret2
        exact ⟨_, rfl, H1.out⟩
set_option maxRecDepth 10000 in
theorem pCut_any (w : World) (o : Option Addr) (n c : Nat) (rs : List RV) (vs : List Ver) (hn : n = vs.length) (hf : FitL vs) (hv : Vers w o c rs vs) :
    Calls Try.prog 15 #[.slice o n c] w fun e w' => e = .returned (.bool (wholeB vs && formedB vs)) ∧ Keeps no w w' := by
  have HND : Hid (Calls Try.prog 13 #[.slice o n c] w fun e w' => ∃ u, e = .returned u ∧ NeedTo w vs u w') := pNeeds_any w o n c rs vs hn hf hv
  have HLN : Hid ((needsV vs).length ≤ 2199023255500) := Nat.le_trans (needs_len vs) hf.len
  have HW : Hid ((needsV vs).length = 0 ↔ wholeB vs = true) := by rw [wholeB_iff, ← needs_nil, List.length_eq_zero_iff]; exact Iff.rfl
  clear hn hf hv
  go_enter Try.func15, Try.ntmps15
  go_wp2_with fail
  refine Calls.mono HND.out ?_
  rintro e w1 ⟨u, rfl, ⟨hF, rfl, hk⟩ | ⟨hF, o1, n1, c1, rfl, hn1, ho1, hnw, hk⟩⟩
  · have HK : Hid (Keeps no w w1 ∧ formedB vs = false) := ⟨hk, hF⟩
    clear hk hF HND HLN HW
    go_wp2_with fail
    go_ret
    exact ⟨by rw [HK.out.2, Bool.and_false]; rfl, HK.out.1⟩
  · have HK : Hid (Keeps no w w1 ∧ formedB vs = true) := ⟨hk, hF⟩
    rw [← hn1] at HLN HW
    clear hk hF HND hn1 ho1 hnw
    have hl : (n1 : Int) ≤ 2199023255500 := by have := HLN.out; omega
    by_cases h0 : n1 = 0
    · have HE : Hid (wholeB vs = true) := HW.out.1 h0
      subst h0
      clear HW HLN
      go_wp2_with fail
      go_ret
      exact ⟨by rw [HK.out.2, HE.out]; rfl, HK.out.1⟩
    · have HE : Hid (wholeB vs = false) := by
        show _ = _
        rw [← Bool.not_eq_true]
        exact fun h => h0 (HW.out.2 h)
      have h1 : ((n1 : Int) == 0) = false := by simp; omega
      have h2 : ¬ (n1 : Int) = 0 := by omega
      clear HW HLN
      go_wp2_with fail
      go_ret
      exact ⟨by rw [HK.out.2, HE.out]; rfl, HK.out.1⟩
end Go.Proofs.Ytodblodbeobgeaa
