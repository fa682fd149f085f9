/- same: two lists of versions. -/
import Derived.Test.YtodblodbeobgeaaL1
import Derived.Lib.QuietBelow
import Derived.BigQuiet
namespace Go.Proofs.Ytodblodbeobgeaa
open Go.RowKit Go.Sort Orl
set_option linter.unusedVariables false
set_option linter.unusedSimpArgs false

theorem keeps_grown (W : World) (d : Nat) (os : Array Obj) : Keeps no W (Sort.grow (redrawn W d) os) := Keeps.of_below (below_regrown W d os)
theorem grown_keeps {W X : World} (h : Keeps no W X) : ∃ p : Regrown, X = Sort.grow (redrawn W p.d) p.os := regrown_of_below (h.below (Nat.le_refl _) (fun _ h => h.elim))
theorem call_grown {f : FuncId} {args : Array Value} {W : World} {v : Value} (h : ∀ X, Keeps no W X → Calls Try.prog f args X fun e w' => e = .returned v ∧ Keeps no X w') (d : Nat) (os : Array Obj) :
    Calls Try.prog f args (Sort.grow (redrawn W d) os) fun e w'' => e = .returned v ∧ ∃ p : Regrown, w'' = Sort.grow (redrawn W p.d) p.os :=
  (h _ (keeps_grown W d os)).mono fun e w' ⟨he, hk⟩ => ⟨he, grown_keeps ((keeps_grown W d os).trans hk)⟩
theorem sameT_grown {W : World} (oa : Option Addr) (na ca : Nat) (ob : Option Addr) (nb cb : Nat) (sa sb : List Tx) (hna : na = sa.length) (hnb : nb = sb.length) (hla : sa.length ≤ 8796093022000) (hlb : sb.length ≤ 8796093022000) (ha : Sl TE W oa ca sa) (hb : Sl TE W ob cb sb) (d : Nat) (os : Array Obj) :
    Calls Try.prog 35 #[.slice oa na ca, .slice ob nb cb] (Sort.grow (redrawn W d) os) fun e w'' => e = .returned (.bool (decide (sa = sb))) ∧ ∃ p : Regrown, w'' = Sort.grow (redrawn W p.d) p.os :=
  call_grown (fun X hX => (sameTexts_any X oa na ca ob nb cb sa sb hna hnb hla hlb (ha.keepsN hX) (hb.keepsN hX)).mono fun e w' ⟨⟨B, he, hB⟩, hk⟩ => ⟨by rw [he]; congr 2; exact Bool.eq_iff_iff.2 (by rw [hB.out, decide_eq_true_eq]), hk⟩) d os
theorem dSameT_grown {W : World} (oa : Option Addr) (na ca : Nat) (ob : Option Addr) (nb cb : Nat) (sa sb : List Tx) (hna : na = sa.length) (hnb : nb = sb.length) (hla : sa.length ≤ 8796093022000) (hlb : sb.length ≤ 8796093022000) (ha : Sl TE W oa ca sa) (hb : Sl TE W ob cb sb) (d : Nat) (os : Array Obj) :
    Calls Try.prog 33 #[.slice oa na ca, .slice ob nb cb] (Sort.grow (redrawn W d) os) fun e w'' => e = .returned (.bool (decide (sa = sb))) ∧ ∃ p : Regrown, w'' = Sort.grow (redrawn W p.d) p.os :=
  call_grown (fun X hX => (dSameTexts_any X oa na ca ob nb cb sa sb hna hnb hla hlb (ha.keepsN hX) (hb.keepsN hX)).mono fun e w' ⟨⟨B, he, hB⟩, hk⟩ => ⟨by rw [he]; congr 2; exact Bool.eq_iff_iff.2 (by rw [hB.out, decide_eq_true_eq]), hk⟩) d os

theorem ver_eq (x y : Ver) : x = y ↔ x.key = y.key ∧ x.id = y.id ∧ x.val = y.val ∧ x.keys = y.keys := by
  cases x; cases y; simp
set_option maxRecDepth 10000 in
set_option maxHeartbeats 1000000 in
theorem same_any (w : World) (oa : Option Addr) (na ca : Nat) (ob : Option Addr) (nb cb : Nat) (ra rb : List RV) (va vb : List Ver) (hna : na = va.length) (hnb : nb = vb.length) (hfa : FitL va) (hfb : FitL vb) (ha : Vers w oa ca ra va) (hb : Vers w ob cb rb vb) :
    Calls Try.prog 22 #[.slice oa na ca, .slice ob nb cb] w fun e w' => e = .returned (.bool (decide (va = vb))) ∧ Keeps no w w' := by
  have HA : Hid (na = va.length) := hna
  have HB : Hid (nb = vb.length) := hnb
  have hA : (na : Int) ≤ 2199023255500 := by have := hfa.len; omega
  have hB : (nb : Int) ≤ 2199023255500 := by have := hfb.len; omega
  have HFA : Hid (FitL va) := hfa
  have HFB : Hid (FitL vb) := hfb
  have HVA : Hid (Vers w oa ca ra va) := ha
  have HVB : Hid (Vers w ob cb rb vb) := hb
  clear hna hnb hfa hfb ha hb
  by_cases hne : na = nb
  · subst hne
    go_enter Try.func22, Try.ntmps22
    go_wp2_with fail
    go_loopw [5] (fun i wr => ∃ k : Nat, k ≤ na ∧ i = .int .i64 k ∧ Hid (va.take k = vb.take k) ∧ Hid (Keeps no w wr)) (fun i _ => na - (intOf i).toNat)
    case atStart => exact ⟨0, by omega, rfl, show va.take 0 = vb.take 0 by simp, Keeps.refl _ _⟩
    case round =>
      rename World => wr
      obtain ⟨k, hk, rfl, HT, HK⟩ := hrel
      by_cases h2 : k < na
      · have hka : k < va.length := by have := HA.out; omega
        have hkb : k < vb.length := by have := HB.out; omega
        have h2' : (k : Int) < na := by omega
        obtain ⟨b1, off1, p1, m1, c1, ho1, d0, d1, d2, d3, hn1, hs1⟩ := (HVA.out.keepsN HK.out).at hka
        obtain ⟨b2, off2, p2, m2, c2, ho2, g0, g1, g2, g3, hn2, hs2⟩ := (HVB.out.keepsN HK.out).at hkb
        have HL : Hid ((va.getD k v0).keys.length ≤ 8796093022000 ∧ (vb.getD k v0).keys.length ≤ 8796093022000) := ⟨(HFA.out.at hka).len, (HFB.out.at hkb).len⟩
        have cS := sameT_grown p1 m1 c1 p2 m2 c2 _ _ hn1 hn2 HL.out.1 HL.out.2 hs1 hs2
        have HE : Hid (∀ B, B = decide (va.getD k v0 = vb.getD k v0) → (B = true → va.take (k + 1) = vb.take (k + 1)) ∧ (B = false → ¬ va = vb)) := by
          rintro B rfl
          rw [decide_eq_true_eq, decide_eq_false_iff_not]
          refine ⟨fun e => ?_, fun e h => e (by rw [h])⟩
          rw [take_succ_getD va k v0 hka, take_succ_getD vb k v0 hkb, HT.out, e]
        have HEE : Hid (decide (va.getD k v0 = vb.getD k v0) = decide ((va.getD k v0).key = (vb.getD k v0).key ∧ (va.getD k v0).id = (vb.getD k v0).id ∧ (va.getD k v0).val = (vb.getD k v0).val ∧ (va.getD k v0).keys = (vb.getD k v0).keys)) := by
          show _ = _
          congr 1; exact propext (ver_eq _ _)
        clear hn1 hn2 hs1 hs2 HL hka hkb
        subst ho1 ho2
        generalize va.getD k v0 = x at d0 d1 d2 cS HE HEE
        generalize vb.getD k v0 = y at g0 g1 g2 cS HE HEE
        obtain ⟨x0, x1, x2, x3⟩ := x
        obtain ⟨y0, y1, y2, y3⟩ := y
        simp only at d0 d1 d2 g0 g1 g2 cS HEE
        have z0 := cell_regrown d0
        have z1 := cell_regrown d1
        have z2 := cell_regrown d2
        have z3 := cell_regrown d3
        have q0 := cell_regrown g0
        have q1 := cell_regrown g1
        have q2 := cell_regrown g2
        have q3 := cell_regrown g3
        have HC : Hid (∀ d os, Calls Try.prog 35 #[.slice p1 m1 c1, .slice p2 m2 c2] (Sort.grow (redrawn wr d) os) fun e w'' => e = .returned (.bool (decide (x3 = y3))) ∧ ∃ p : Regrown, w'' = Sort.grow (redrawn wr p.d) p.os) := cS
        clear cS
        by_cases h3 : x0 = y0
        · have e3 : (x0.toList == y0.toList) = true := by rw [tx_eq]; simpa using h3
          have H3 : Hid (x0 = y0) := h3
          clear h3
          by_cases h4 : x1 = y1
          · subst h4
            have H4 : Hid (x1 = x1) := rfl
            by_cases h5 : x2 = y2
            · have e5 : (x2.toList == y2.toList) = true := by rw [tx_eq]; simpa using h5
              have H5 : Hid (x2 = y2) := h5
              clear h5
              have HBB : Hid (decide ((⟨x0, x1, x2, x3⟩ : Ver) = ⟨y0, x1, y2, y3⟩) = decide (x3 = y3)) := by
                show _ = _
                rw [HEE.out]; simp [H3.out, H4.out, H5.out]
              obtain ⟨Bq, hBq⟩ : ∃ B, B = decide (x3 = y3) := ⟨_, rfl⟩
              have HBq : Hid (Bq = decide (x3 = y3)) := hBq
              rw [← hBq] at HC
              clear hBq
              go_wp2_with fail
              refine wp_region_quiet_below (by kernel_rfl) (by kernel_rfl) ?_
              repeat (go_big_quiet_step (exact HC.out _ _))
              refine wpQuiet_nil ?_
              intro _ hw'
              obtain ⟨⟨dq, osq⟩, rfl⟩ := hw'
              have K1 : Hid (Keeps no w (Sort.grow (redrawn wr dq) osq)) := HK.out.trans (keeps_grown ..)
              generalize Sort.grow (redrawn wr dq) osq = u1 at K1 ⊢
              clear d0 d1 d2 d3 g0 g1 g2 g3 z0 z1 z2 z3 q0 q1 q2 q3 HC
              cases Bq with
              | true =>
                go_wp2_with fail
                go_roundw
                case rel => exact ⟨k + 1, by omega, by go_num, (HE.out true (by rw [HBB.out]; exact HBq.out)).1 rfl, K1⟩
                case measure => simp [intOf]; omega
              | false =>
                go_wp2_with fail
                go_ret
                have := (HE.out false (by rw [HBB.out]; exact HBq.out)).2 rfl
                exact ⟨by rw [decide_eq_false this]; rfl, K1.out⟩
            · have e5 : (x2.toList == y2.toList) = false := by rw [tx_eq]; simpa using h5
              have HBB : Hid (¬ va = vb) := (HE.out false (by rw [HEE.out]; symm; rw [decide_eq_false_iff_not]; exact fun h => h5 h.2.2.1)).2 rfl
              clear h5
              go_wp2_with fail
              refine wp_region_quiet_below (by kernel_rfl) (by kernel_rfl) ?_
              repeat (go_big_quiet_step (fail))
              refine wpQuiet_nil ?_
              intro _ hw'
              obtain ⟨⟨dq, osq⟩, rfl⟩ := hw'
              have K1 : Hid (Keeps no w (Sort.grow (redrawn wr dq) osq)) := HK.out.trans (keeps_grown ..)
              generalize Sort.grow (redrawn wr dq) osq = u1 at K1 ⊢
              clear d0 d1 d2 d3 g0 g1 g2 g3 z0 z1 z2 z3 q0 q1 q2 q3 HC
              go_wp2_with fail
              go_ret
              exact ⟨by rw [decide_eq_false HBB.out]; rfl, K1.out⟩
          · have e4 : ((x1 : Int) == (y1 : Int)) = false := by simp; omega
            have e4' : ((x1 : Int) != (y1 : Int)) = true := by simp; omega
            have e4'' : ¬ (x1 : Int) = (y1 : Int) := by omega
            have HBB : Hid (¬ va = vb) := (HE.out false (by rw [HEE.out]; symm; rw [decide_eq_false_iff_not]; exact fun h => h4 h.2.1)).2 rfl
            go_wp2_with fail
            refine wp_region_quiet_below (by kernel_rfl) (by kernel_rfl) ?_
            repeat (go_big_quiet_step (fail))
            refine wpQuiet_nil ?_
            intro _ hw'
            obtain ⟨⟨dq, osq⟩, rfl⟩ := hw'
            have K1 : Hid (Keeps no w (Sort.grow (redrawn wr dq) osq)) := HK.out.trans (keeps_grown ..)
            generalize Sort.grow (redrawn wr dq) osq = u1 at K1 ⊢
            clear d0 d1 d2 d3 g0 g1 g2 g3 z0 z1 z2 z3 q0 q1 q2 q3 HC
            go_wp2_with fail
            go_ret
            exact ⟨by rw [decide_eq_false HBB.out]; rfl, K1.out⟩
        · have e3 : (x0.toList == y0.toList) = false := by rw [tx_eq]; simpa using h3
          have HBB : Hid (¬ va = vb) := (HE.out false (by rw [HEE.out]; symm; rw [decide_eq_false_iff_not]; exact fun h => h3 h.1)).2 rfl
          clear h3
          go_wp2_with fail
          refine wp_region_quiet_below (by kernel_rfl) (by kernel_rfl) ?_
          repeat (go_big_quiet_step (fail))
          refine wpQuiet_nil ?_
          intro _ hw'
          obtain ⟨⟨dq, osq⟩, rfl⟩ := hw'
          have K1 : Hid (Keeps no w (Sort.grow (redrawn wr dq) osq)) := HK.out.trans (keeps_grown ..)
          generalize Sort.grow (redrawn wr dq) osq = u1 at K1 ⊢
          clear d0 d1 d2 d3 g0 g1 g2 g3 z0 z1 z2 z3 q0 q1 q2 q3 HC
          go_wp2_with fail
          go_ret
          exact ⟨by rw [decide_eq_false HBB.out]; rfl, K1.out⟩
      · go_wp2_with fail
        go_ret
        refine ⟨?_, HK.out⟩
        have := HT.out
        rw [List.take_of_length_le (by have := HA.out; omega), List.take_of_length_le (by have := HB.out; omega)] at this
        rw [decide_eq_true this]; rfl
  · have hne' : ¬ ((na : Nat) : Int) = (nb : Nat) := by omega
    have HN : Hid (¬ va = vb) := fun e => hne (by rw [HA.out, HB.out, e])
    go_enter Try.func22, Try.ntmps22
    go_wp2
    go_ret
    exact ⟨by rw [decide_eq_false HN.out]; rfl, Keeps.refl _ _⟩
end Go.Proofs.Ytodblodbeobgeaa
