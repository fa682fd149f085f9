/- The law's own: Same. -/
import Derived.Test.YtjkljljmjjnneaaGreatDoorS2
namespace Go.Proofs.YtjkljljmjjnneaaGreatDoor
open Go.RowKit Go.Sort Orl
set_option linter.unusedVariables false
set_option linter.unusedSimpArgs false

theorem sameE_grown {W : World} (r s : RE) (e f : Ev) (he : EvOf W r e) (hf : EvOf W s f) (ze : SzE e) (zf : SzE f) (d : Nat) (os : Array Obj) :
    Calls Tryz.prog 11 #[aggE r, aggE s] (Sort.grow (redrawn W d) os) fun E w'' => E = .returned (.bool (decide (e = f))) ∧ ∃ p : Regrown, w'' = Sort.grow (redrawn W p.d) p.os :=
  call_grown (fun X hX => sameEvent_any X r s e f (he.keepsN hX) (hf.keepsN hX) ze zf) d os
set_option maxRecDepth 10000 in
set_option maxHeartbeats 4000000 in
theorem Same_any (w : World) (oa : Option Addr) (na ca : Nat) (ob : Option Addr) (nb cb : Nat) (ra rb : List RE) (ea eb : List Ev) (hna : na = ea.length) (hnb : nb = eb.length) (ha : Evs w oa ca ra ea) (hb : Evs w ob cb rb eb) (za : SzL ea) (zb : SzL eb) :
    Calls Tryz.prog 14 #[.slice oa na ca, .slice ob nb cb] w fun e w' => e = .returned (.bool (decide (ea = eb))) ∧ Keeps no w w' := by
  have HA : Hid (na = ea.length) := hna
  have HB : Hid (nb = eb.length) := hnb
  have hA : (na : Int) ≤ 1099511627000 := by have := za.len; omega
  have hB : (nb : Int) ≤ 1099511627000 := by have := zb.len; omega
  have HFA : Hid (SzL ea ∧ SzL eb) := ⟨za, zb⟩
  have HVA : Hid (Evs w oa ca ra ea ∧ Evs w ob cb rb eb) := ⟨ha, hb⟩
  obtain ⟨R, hR⟩ : ∃ R, R = decide (ea = eb) := ⟨_, rfl⟩
  have HR : Hid (R = true ↔ ea = eb) := by show _ ↔ _; rw [hR, decide_eq_true_eq]
  rw [← hR]
  clear hna hnb za zb ha hb hR
  by_cases hne : na = nb
  rotate_left
  · have hne' : ¬ ((na : Nat) : Int) = (nb : Nat) := by omega
    have HF : Hid (R = false) := by show _ = _; rw [← Bool.not_eq_true, HR.out]; exact fun e => hne (by rw [HA.out, HB.out, e])
    clear HR
    go_enter Tryz.func14, Tryz.ntmps14
    go_wp2
    go_ret
    exact ⟨by rw [HF.out]; rfl, Keeps.refl _ _⟩
  subst hne
  go_enter Tryz.func14, Tryz.ntmps14
  go_wp2_with fail
  go_loopw [5] (fun i wr => ∃ k : Nat, k ≤ na ∧ i = .int .i64 k ∧ Hid (ea.take k = eb.take k) ∧ Hid (Keeps no w wr)) (fun i _ => na - (intOf i).toNat)
  case atStart => exact ⟨0, by omega, rfl, show ea.take 0 = eb.take 0 by simp, Keeps.refl _ _⟩
  case round =>
    rename World => wr
    obtain ⟨k, hk, rfl, HT, HK⟩ := hrel
    by_cases h2 : k < na
    · have hka : k < ea.length := by have := HA.out; omega
      have hkb : k < eb.length := by have := HB.out; omega
      have h2' : (k : Int) < na := by omega
      have hv1 := HVA.out.1.keepsN HK.out
      have hv2 := HVA.out.2.keepsN HK.out
      obtain ⟨b1, off1, ho1, A1⟩ := hv1.sl.atE (j := k) (by rw [hv1.len]; exact hka)
      obtain ⟨b2, off2, ho2, A2⟩ := hv2.sl.atE (j := k) (by rw [hv2.len]; exact hkb)
      have q1 := hv1.each k hka
      have q2 := hv2.each k hkb
      have z1 := HFA.out.1.each _ (getD_mem_lt ev0 hka)
      have z2 := HFA.out.2.each _ (getD_mem_lt ev0 hkb)
      clear hv1 hv2
      subst ho1
      subst ho2
      generalize ra.getD k re0 = x at A1 q1
      generalize rb.getD k re0 = y at A2 q2
      have HTS : Hid ((ea.getD k ev0 = eb.getD k ev0 → ea.take (k + 1) = eb.take (k + 1)) ∧ (¬ ea.getD k ev0 = eb.getD k ev0 → R = false)) := by
        refine ⟨fun e => ?_, fun e => ?_⟩
        · rw [take_succ_getD ea k ev0 hka, take_succ_getD eb k ev0 hkb, HT.out, e]
        · rw [← Bool.not_eq_true, HR.out]; exact fun h => e (by rw [h])
      obtain ⟨Bq, hBq⟩ : ∃ B, B = decide (ea.getD k ev0 = eb.getD k ev0) := ⟨_, rfl⟩
      have cS := sameE_grown x y _ _ q1 q2 z1 z2
      rw [← hBq] at cS
      have HBq : Hid (Bq = true ↔ ea.getD k ev0 = eb.getD k ev0) := by show _ ↔ _; rw [hBq, decide_eq_true_eq]
      clear hBq q1 q2 hka hkb z1 z2
      obtain ⟨ek, ecl, et, ei, po, pn, pc, ko, kn, kc, ax, ar, ai, vo, vn, vc⟩ := x
      obtain ⟨fk, fcl, ft, fi, qo, qn, qc, lo, ln, lc, bx, br, bi, uo, un, uc⟩ := y
      obtain ⟨s0, s1, s2, s3, s4, s5, s6, s7, s8, s9⟩ := A1
      obtain ⟨t0, t1, t2, t3, t4, t5, t6, t7, t8, t9⟩ := A2
      simp only at s0 s1 s2 s3 s4 s5 s6 s7 s8 s9 t0 t1 t2 t3 t4 t5 t6 t7 t8 t9
      have HC : Hid (∀ d os, Calls Tryz.prog 11 #[.agg #[.int .i64 ek, .int .i64 ecl, .int .i64 et, .int .u64 (ei : Nat), .slice po pn pc, .slice ko kn kc, .int .i64 ax, .int .i64 ar, .int .u64 (ai : Nat), .slice vo vn vc], .agg #[.int .i64 fk, .int .i64 fcl, .int .i64 ft, .int .u64 (fi : Nat), .slice qo qn qc, .slice lo ln lc, .int .i64 bx, .int .i64 br, .int .u64 (bi : Nat), .slice uo un uc]] (Sort.grow (redrawn wr d) os) fun e w'' => e = .returned (.bool Bq) ∧ ∃ p : Regrown, w'' = Sort.grow (redrawn wr p.d) p.os) := fun d os => cS d os
      clear cS
      have a0 := cell_regrown s0
      have a1 := cell_regrown s1
      have a2 := cell_regrown s2
      have a3 := cell_regrown s3
      have a4 := cell_regrown s4
      have a5 := cell_regrown s5
      have a6 := cell_regrown s6
      have a7 := cell_regrown s7
      have a8 := cell_regrown s8
      have a9 := cell_regrown s9
      have c0 := cell_regrown t0
      have c1 := cell_regrown t1
      have c2 := cell_regrown t2
      have c3 := cell_regrown t3
      have c4 := cell_regrown t4
      have c5 := cell_regrown t5
      have c6 := cell_regrown t6
      have c7 := cell_regrown t7
      have c8 := cell_regrown t8
      have c9 := cell_regrown t9
      clear s0 s1 s2 s3 s4 s5 s6 s7 s8 s9 t0 t1 t2 t3 t4 t5 t6 t7 t8 t9
      go_wp2_with fail
      refine wp_region_quiet_below (by kernel_rfl) (by kernel_rfl) ?_
      repeat (go_big_quiet_step (exact HC.out _ _))
      refine wpQuiet_nil ?_
      intro _ hw'
      obtain ⟨⟨dq, osq⟩, rfl⟩ := hw'
      have K1 : Hid (Keeps no w (Sort.grow (redrawn wr dq) osq)) := HK.out.trans (keeps_grown ..)
      generalize Sort.grow (redrawn wr dq) osq = u1 at K1 ⊢
      clear a0 a1 a2 a3 a4 a5 a6 a7 a8 a9 c0 c1 c2 c3 c4 c5 c6 c7 c8 c9 HC
      cases Bq with
      | true =>
        have HN : Hid (ea.take (k + 1) = eb.take (k + 1)) := HTS.out.1 (by simpa using HBq.out)
        clear HTS HBq
        go_wp2_with fail
        go_roundw
        case rel => exact ⟨k + 1, by omega, by go_num, HN, K1⟩
        case measure => simp [intOf]; omega
      | false =>
        have HN : Hid (R = false) := HTS.out.2 (by simpa using HBq.out)
        clear HTS HBq
        go_wp2_with fail
        go_ret
        exact ⟨by rw [HN.out]; rfl, K1.out⟩
    · have h2' : ¬ (k : Int) < na := by omega
      have HF : Hid (R = true) := by
        have h := HT.out
        rw [List.take_of_length_le (by have := HA.out; omega), List.take_of_length_le (by have := HB.out; omega)] at h
        exact HR.out.2 h
      go_wp2
      go_ret
      exact ⟨by rw [HF.out]; rfl, HK.out⟩
end Go.Proofs.YtjkljljmjjnneaaGreatDoor
