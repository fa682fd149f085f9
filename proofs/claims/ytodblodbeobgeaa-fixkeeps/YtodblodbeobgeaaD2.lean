/- The document's Formed. -/
import Derived.Test.YtodblodbeobgeaaD1
namespace Go.Proofs.Ytodblodbeobgeaa
open Go.RowKit Go.Sort Orl
set_option linter.unusedVariables false
set_option linter.unusedSimpArgs false

theorem Vers.agg {w : World} {o : Option Addr} {c : Nat} {rs : List RV} {vs : List Ver} (h : Vers w o c rs vs) {j : Nat} (hj : j < vs.length) : ∃ (b off : Nat) (r : RV), o = some ⟨b, off, none⟩ ∧ w.cell? ⟨b, off + j * 4, none⟩ = some (.string r.key) ∧ w.cell? ⟨b, off + j * 4 + 1, none⟩ = some (.int .u64 (r.id : Nat)) ∧ w.cell? ⟨b, off + j * 4 + 2, none⟩ = some (.string r.val) ∧ w.cell? ⟨b, off + j * 4 + 3, none⟩ = some (.slice r.o r.n r.c) ∧ VerOf w r (vs.getD j v0) := by
  obtain ⟨b, off, e, c0, c1, c2, c3⟩ := h.sl.atV (j := j) (by rw [h.len]; exact hj)
  exact ⟨b, off, _, e, c0, c1, c2, c3, h.each j hj⟩
structure FormTo (l : List Ver) (i : Nat) : Prop where
  one : ∀ j, j < i → oneB (l.getD j v0) = true
  two : ∀ j k, j < i → k < j → badB (l.getD k v0) (l.getD j v0) = false
theorem FormTo.succ {l : List Ver} {i : Nat} (h : FormTo l i) (h1 : oneB (l.getD i v0) = true) (h2 : ∀ k, k < i → badB (l.getD k v0) (l.getD i v0) = false) : FormTo l (i + 1) where
  one j hj := by
    by_cases e : j = i
    · subst e; exact h1
    · exact h.one j (by omega)
  two j k hj hk := by
    by_cases e : j = i
    · subst e; exact h2 k hk
    · exact h.two j k (by omega) hk
set_option maxRecDepth 10000 in
set_option maxHeartbeats 1000000 in
theorem dFormed_any (w : World) (o : Option Addr) (n c : Nat) (rs : List RV) (vs : List Ver) (hn : n = vs.length) (hf : FitL vs) (hv : Vers w o c rs vs) :
    Calls Try.prog 17 #[.slice o n c] w fun e w' => e = .returned (.bool (formedB vs)) ∧ Keeps no w w' := by
  have HN : Hid (n = vs.length) := hn
  have hA : (n : Int) ≤ 2199023255500 := by have := hf.len; omega
  have HF : Hid (FitL vs) := hf
  have HV : Hid (Vers w o c rs vs) := hv
  clear hn hf hv
  by_cases h1 : n < 1
  · have HB : Hid (formedB vs = false) := formedB_no fun h => by have := h.pos; have := HN.out; omega
    have h1' : decide ((n : Int) < 1) = true := by simp; omega
    have h1'' : (n : Int) < 1 := by omega
    obtain rfl : n = 0 := by omega
    go_enter Try.func17, Try.ntmps17
    go_wp2
    go_ret
    exact ⟨by rw [HB.out]; rfl, Keeps.refl _ _⟩
  by_cases h2 : 1024 < n
  · have HB : Hid (formedB vs = false) := formedB_no fun h => by have := h.most; have := HN.out; omega
    have h1'' : ¬ (n : Int) < 1 := by omega
    have h2'' : (1024 : Int) < n := by omega
    go_enter Try.func17, Try.ntmps17
    go_wp2
    go_ret
    exact ⟨by rw [HB.out]; rfl, Keeps.refl _ _⟩
  have h1'' : ¬ (n : Int) < 1 := by omega
  have h2'' : ¬ (1024 : Int) < n := by omega
  go_enter Try.func17, Try.ntmps17
  go_wp2_with fail
  go_loopw [3] (fun s3 wr => ∃ i : Nat, i ≤ n ∧ s3 = .int .i64 i ∧ Hid (FormTo vs i) ∧ Hid (Keeps no w wr)) (fun s3 _ => n - (intOf s3).toNat)
  case atStart => exact ⟨0, by omega, rfl, ⟨fun j hj => by omega, fun j k hj => by omega⟩, Keeps.refl _ _⟩
  case round =>
    rename World => wr
    obtain ⟨i, hi, rfl, HT, HK⟩ := hrel
    by_cases hlt : i < n
    · have hlt' : (i : Int) < n := by omega
      have hil : i < vs.length := by have := HN.out; omega
      obtain ⟨b, off, r, hob, d0, d1, d2, d3, hver⟩ := (HV.out.keepsN HK.out).agg hil
      subst hob
      have hone := dOne_any wr r (vs.getD i v0) (HF.out.at hil) hver
      have HY : Hid (VerOf wr r (vs.getD i v0) ∧ FitV (vs.getD i v0)) := ⟨hver, HF.out.at hil⟩
      have HO : Hid (oneB (vs.getD i v0) = false → formedB vs = false) := fun h => formedB_no fun hf => by rw [hf.one i hil] at h; cases h
      have HP : Hid (∀ k, k < i → badB (vs.getD k v0) (vs.getD i v0) = true → formedB vs = false) := fun k hk h => formedB_no fun hf => by rw [hf.two i k hil hk] at h; cases h
      have HS : Hid (oneB (vs.getD i v0) = true → (∀ k, k < i → badB (vs.getD k v0) (vs.getD i v0) = false) → FormTo vs (i + 1)) := fun h1 h2 => HT.out.succ h1 h2
      generalize hy : vs.getD i v0 = y at HY hone HO HP HS
      have HYE : Hid (vs.getD i v0 = y) := hy
      clear hver hy
      obtain ⟨rk, ri, rv, ro, rn, rc⟩ := r
      simp only at d0 d1 d2 d3 hone
      have HONE : Hid (Calls Try.prog 32 #[.agg #[.string rk, .int .u64 (ri : Nat), .string rv, .slice ro rn rc]] wr fun e w' => e = .returned (.bool (oneB y)) ∧ Keeps no wr w') := hone
      clear hone
      go_wp2_with fail
      refine Calls.mono HONE.out ?_
      rintro e w2 ⟨rfl, hk2⟩
      have HK2 : Hid (Keeps no wr w2) := hk2
      clear hk2 HONE d0 d1 d2 d3
      obtain ⟨B, hB⟩ : ∃ B, B = oneB y := ⟨_, rfl⟩
      have HB : Hid (B = oneB y) := hB
      rw [← hB]
      clear hB
      cases B with
      | false =>
        go_wp2_with fail
        go_ret
        exact ⟨by rw [HO.out HB.out.symm]; rfl, HK.out.trans HK2.out⟩
      | true =>
        go_wp2_with fail
        go_loopw [4] (fun s4 wi => ∃ k : Nat, k ≤ i ∧ s4 = .int .i64 k ∧ Hid (∀ k', k' < k → badB (vs.getD k' v0) y = false) ∧ Hid (Keeps no w wi)) (fun s4 _ => i - (intOf s4).toNat)
        case atStart => exact ⟨0, by omega, rfl, fun k' h => by omega, HK.out.trans HK2.out⟩
        case round =>
          rename World => wi
          obtain ⟨k, hk, rfl, HQ, HKI⟩ := hrel
          by_cases hki : k < i
          · have hki' : (k : Int) < i := by omega
            have hkn' : (k : Int) < n := by omega
            have hkl : k < vs.length := by have := HN.out; omega
            obtain ⟨b1, off1, p1, m1, c1, ho1, x0, x1, x2, x3, hn1, hs1⟩ := (HV.out.keepsN HKI.out).at hkl
            obtain ⟨b2, off2, p2, m2, c2, ho2, g0, g1, g2, g3, hn2, hs2⟩ := (HV.out.keepsN HKI.out).at hil
            have hbo : b1 = b ∧ off1 = off ∧ b2 = b ∧ off2 = off := by cases ho1; cases ho2; exact ⟨rfl, rfl, rfl, rfl⟩
            obtain ⟨rfl, rfl, rfl, rfl⟩ := hbo
            clear ho1 ho2 x2 g2
            rw [HYE.out] at g0 g1 hn2 hs2
            have HL : Hid ((vs.getD k v0).keys.length ≤ 8796093022000 ∧ y.keys.length ≤ 8796093022000) := ⟨(HF.out.at hkl).len, HY.out.2.len⟩
            have cS := dSameT_grown p1 m1 c1 p2 m2 c2 _ _ hn1 hn2 HL.out.1 HL.out.2 hs1 hs2
            generalize hx : vs.getD k v0 = x at x0 x1 cS
            have HXE : Hid (vs.getD k v0 = x) := hx
            clear hn1 hn2 hs1 hs2 HL hkl hx
            obtain ⟨a0, a1, a2, a3⟩ := x
            obtain ⟨y0, y1, y2, y3⟩ := y
            simp only at x0 x1 g0 g1 cS
            have z0 := cell_regrown x0
            have z1 := cell_regrown x1
            have z3 := cell_regrown x3
            have q0 := cell_regrown g0
            have q1 := cell_regrown g1
            have q3 := cell_regrown g3
            have HC : Hid (∀ d os, Calls Try.prog 33 #[.slice p1 m1 c1, .slice p2 m2 c2] (Sort.grow (redrawn wi d) os) fun e w'' => e = .returned (.bool (decide (a3 = y3))) ∧ ∃ p : Regrown, w'' = Sort.grow (redrawn wi p.d) p.os) := cS
            clear cS
            by_cases h3 : a0 = y0
            · have e3 : (a0.toList == y0.toList) = true := by rw [tx_eq]; simpa using h3
              have HNO : Hid (formedB vs = false) := HP.out k hki (by rw [← Bool.not_eq_false, HXE.out, badB_iff]; exact fun h => h.1 h3)
              clear h3
              go_wp2_with fail
              refine wp_region_quiet_below (by kernel_rfl) (by kernel_rfl) ?_
              repeat (go_big_quiet_step (fail))
              refine wpQuiet_nil ?_
              intro _ hw'
              obtain ⟨⟨dq, osq⟩, rfl⟩ := hw'
              have K1 : Hid (Keeps no w (Sort.grow (redrawn wi dq) osq)) := HKI.out.trans (keeps_grown ..)
              generalize Sort.grow (redrawn wi dq) osq = u1 at K1 ⊢
              clear x0 x1 x3 g0 g1 g3 z0 z1 z3 q0 q1 q3 HC
              go_wp2_with fail
              go_ret
              exact ⟨by rw [HNO.out]; rfl, K1.out⟩
            · have e3 : (a0.toList == y0.toList) = false := by rw [tx_eq]; simpa using h3
              have H3 : Hid (¬ a0 = y0) := h3
              clear h3
              by_cases h4 : a1 = y1
              · subst h4
                obtain ⟨Bq, hBq⟩ : ∃ B, B = decide (a3 = y3) := ⟨_, rfl⟩
                have HBq : Hid (Bq = decide (a3 = y3)) := hBq
                rw [← hBq] at HC
                clear hBq
                go_wp2_with fail
                refine wp_region_quiet_below (by kernel_rfl) (by kernel_rfl) ?_
                repeat (go_big_quiet_step (exact HC.out _ _))
                refine wpQuiet_nil ?_
                intro _ hw'
                obtain ⟨⟨dq, osq⟩, rfl⟩ := hw'
                have K1 : Hid (Keeps no w (Sort.grow (redrawn wi dq) osq)) := HKI.out.trans (keeps_grown ..)
                generalize Sort.grow (redrawn wi dq) osq = u1 at K1 ⊢
                clear x0 x1 x3 g0 g1 g3 z0 z1 z3 q0 q1 q3 HC
                cases Bq with
                | true =>
                  have HQN : Hid (∀ k', k' < k + 1 → badB (vs.getD k' v0) ⟨y0, a1, y2, y3⟩ = false) := by
                    intro k' hk'
                    by_cases e : k' = k
                    · rw [e, HXE.out, badB_iff]; exact ⟨H3.out, fun _ => of_decide_eq_true HBq.out.symm⟩
                    · exact HQ.out k' (by omega)
                  go_wp2_with fail
                  go_roundw
                  case rel => exact ⟨k + 1, by omega, by go_num, HQN.out, K1⟩
                  case measure => simp [intOf]; omega
                | false =>
                  have HNO : Hid (formedB vs = false) := HP.out k hki (by rw [← Bool.not_eq_false, HXE.out, badB_iff]; exact fun h => of_decide_eq_false HBq.out.symm (h.2 rfl))
                  go_wp2_with fail
                  go_ret
                  exact ⟨by rw [HNO.out]; rfl, K1.out⟩
              · have e4 : ((a1 : Int) == (y1 : Int)) = false := by simp; omega
                have e4' : ((a1 : Int) != (y1 : Int)) = true := by simp; omega
                have e4'' : ¬ (a1 : Int) = (y1 : Int) := by omega
                go_wp2_with fail
                refine wp_region_quiet_below (by kernel_rfl) (by kernel_rfl) ?_
                repeat (go_big_quiet_step (fail))
                refine wpQuiet_nil ?_
                intro _ hw'
                obtain ⟨⟨dq, osq⟩, rfl⟩ := hw'
                have K1 : Hid (Keeps no w (Sort.grow (redrawn wi dq) osq)) := HKI.out.trans (keeps_grown ..)
                generalize Sort.grow (redrawn wi dq) osq = u1 at K1 ⊢
                clear x0 x1 x3 g0 g1 g3 z0 z1 z3 q0 q1 q3 HC
                have HQN : Hid (∀ k', k' < k + 1 → badB (vs.getD k' v0) ⟨y0, y1, y2, y3⟩ = false) := by
                  intro k' hk'
                  by_cases e : k' = k
                  · rw [e, HXE.out, badB_iff]; exact ⟨H3.out, fun e => absurd e h4⟩
                  · exact HQ.out k' (by omega)
                go_wp2_with fail
                go_roundw
                case rel => exact ⟨k + 1, by omega, by go_num, HQN.out, K1⟩
                case measure => simp [intOf]; omega
          · have hki' : ¬ (k : Int) < i := by omega
            have hkk : k = i := by omega
            have HN2 : Hid (FormTo vs (i + 1)) := HS.out HB.out.symm (fun k' hk' => HQ.out k' (by omega))
            clear hkk
            go_wp2_with fail
            go_roundw
            case rel => exact ⟨i + 1, by omega, by go_num, HN2, HKI⟩
            case measure => simp [intOf]; omega
    · have hlt' : ¬ (i : Int) < n := by omega
      have hin : i = vs.length := by have := HN.out; omega
      have HB : Hid (formedB vs = true) := (formedB_iff vs).2 ⟨by have := HN.out; omega, by have := HN.out; omega, fun j hj => HT.out.one j (by omega), fun j k hj hk => HT.out.two j k (by omega) hk⟩
      clear hin
      go_wp2_with fail
      go_ret
      exact ⟨by rw [HB.out]; rfl, HK.out⟩
end Go.Proofs.Ytodblodbeobgeaa
