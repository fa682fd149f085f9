/- HistoryBack: the walk. -/
import Derived.Test.YtjkljljmjjnneaaDoorFl
import Derived.Test.YtjkljljmjjnneaaDoorS5
import Derived.Deep.CutBlock
namespace Go.Proofs.YtjkljljmjjnneaaDoor
open Go.RowKit Go.Sort Orl
set_option linter.unusedVariables false
set_option linter.unusedSimpArgs false

theorem take_min {α : Type} (l : List α) (n : Nat) : l.take (min l.length n) = l.take n := by
  by_cases h : l.length ≤ n
  · rw [Nat.min_eq_left h, List.take_length, List.take_of_length_le h]
  · rw [Nat.min_eq_right (by omega)]
set_option maxRecDepth 10000 in
set_option maxHeartbeats 8000000 in
theorem back_any (w : World) (hv : Vs w) (oa : Option Addr) (na ca : Nat) (ra : List RE) (ea : List Ev) (ob : Option Addr) (nb cb : Nat) (rb : List RE) (eb : List Ev) (at' : Int) (hna : na = ea.length) (hnb : nb = eb.length) (ha : Evs w oa ca ra ea) (hb : Evs w ob cb rb eb) (ka : RawOk ea) (kb : RawOk eb) (hla : na ≤ 1048576) (hlb : nb ≤ 1048576) (hat : I64 at') :
    Calls Tryd.prog 4 #[.slice oa na ca, .slice ob nb cb, .int .i64 at'] w fun e w' => e = .returned (.bool true) ∧ Keeps no w w' := by
  have HV : Hid (Vs w) := hv
  have HA : Hid (na = ea.length ∧ Evs w oa ca ra ea ∧ RawOk ea) := ⟨hna, ha, ka⟩
  have HB : Hid (nb = eb.length ∧ Evs w ob cb rb eb ∧ RawOk eb) := ⟨hnb, hb, kb⟩
  have hnaI : (na : Int) ≤ 1048576 := by omega
  have hnbI : (nb : Int) ≤ 1048576 := by omega
  have HAT : Hid (I64 at') := hat
  clear hv hna hnb ha hb ka kb hla hlb hat
  go_enter Tryd.func4, Tryd.ntmps4
  go_upto_block 0 with fail
  go_cut [7] from 25 to 42 (fun s7 wx => ∃ (k : Nat) (oo : Option Addr) (oc : Nat) (rs : List RE), (k : Int) ≤ 60 ∧ s7 = .slice oo k oc ∧ Hid (Fl w wx oo oc rs (fitL ea) ∧ Keeps no w wx ∧ k = (fitL ea).length))
  case first =>
    go_wp2_with fail
    go_loopw [7, 9] (fun s7 s9 wr => ∃ (k : Nat) (oo : Option Addr) (oc : Nat) (rs : List RE), k ≤ na ∧ (k : Int) ≤ 60 ∧ s7 = .slice oo k oc ∧ s9 = .int .i64 (k : Nat) ∧ Hid (Fl w wr oo oc rs ((ea.take k).map fitE) ∧ Keeps no w wr ∧ k = rs.length)) (fun _ s9 _ => 60 - (intOf s9).toNat)
    case atStart => exact ⟨0, none, 0, [], by omega, by decide, rfl, rfl, Fl.nil _ _, Keeps.refl _ _, rfl⟩
    case round =>
      rename World => wr
      obtain ⟨k, oo, oc, rs, hkn, hk60, rfl, rfl, HO⟩ := hrel
      by_cases hlt : k < na ∧ k < 60
      · have h1 : (k : Int) < na := by omega
        have h2 : (k : Int) < 60 := by omega
        have hkl : k < ea.length := by have := HA.out.1; omega
        have hva := HA.out.2.1.keepsN HO.out.2.1
        obtain ⟨g, p, ev1, A1⟩ := hva.sl.atE (j := k) (by rw [hva.len]; exact hkl)
        have q1 := HA.out.2.1.each k hkl
        have hm := getD_mem_lt ev0 hkl
        have HTK : Hid ((ea.take (k + 1)).map fitE = (ea.take k).map fitE ++ [fitE (ea.getD k ev0)]) := by
          show _ = _
          rw [take_succ_getD ea k ev0 hkl, List.map_append]; rfl
        have HFT := fun (r : RE) (hr : EvOf w r (ea.getD k ev0)) => fit_any w wr HO.out.2.1 r _ hr (HA.out.2.2.sz _ hm) (HA.out.2.2.kind _ hm) (HA.out.2.2.client _ hm) (HA.out.2.2.txn _ hm) (HA.out.2.2.ares _ hm)
        generalize ea.getD k ev0 = e1 at q1 HTK HFT
        generalize ra.getD k re0 = r1 at A1 q1
        have HF1 := HFT r1 q1
        clear HFT q1 hm hva hkl
        obtain ⟨ek, ecl, et, ei, po, pn, pc, ko, kn, kc, ax, ar, ai, vo, vn, vc⟩ := r1
        obtain ⟨c0, c1, c2, c3, c4, c5, c6, c7, c8, c9⟩ := A1
        simp only at c0 c1 c2 c3 c4 c5 c6 c7 c8 c9
        unfold aggE cellsE at HF1
        simp only at HF1
        subst ev1
        go_wp2_with fail
        refine HF1.mono ?_
        rintro E w2 ⟨s, rfl, hs2, hk2⟩
        clear c0 c1 c2 c3 c4 c5 c6 c7 c8 c9 HF1
        have HO2 : Hid (Fl w w2 oo oc rs ((ea.take k).map fitE) ∧ EvS w w2 s (fitE e1) ∧ Keeps no w w2 ∧ k = rs.length) := ⟨HO.out.1.keepsN hk2, hs2, HO.out.2.1.trans hk2, HO.out.2.2⟩
        obtain ⟨sk, scl, st, si, spo, spn, spc, sko, skn, skc, sax, sar, sai, svo, svn, svc⟩ := s
        have HL : Hid (Row EE (w2.alloc (.cells #[.int .i64 sk, .int .i64 scl, .int .i64 st, .int .u64 (si : Nat), .slice spo spn spc, .slice sko skn skc, .int .i64 sax, .int .i64 sar, .int .u64 (sai : Nat), .slice svo svn svc] 41)) (some ⟨w2.heap.size, 0, none⟩) [(⟨sk, scl, st, si, spo, spn, spc, sko, skn, skc, sax, sar, sai, svo, svn, svc⟩ : RE)] ∧ Own EE (w2.alloc (.cells #[.int .i64 sk, .int .i64 scl, .int .i64 st, .int .u64 (si : Nat), .slice spo spn spc, .slice sko skn skc, .int .i64 sax, .int .i64 sar, .int .u64 (sai : Nat), .slice svo svn svc] 41)) oo oc rs ∧ Keeps no w2 (w2.alloc (.cells #[.int .i64 sk, .int .i64 scl, .int .i64 st, .int .u64 (si : Nat), .slice spo spn spc, .slice sko skn skc, .int .i64 sax, .int .i64 sar, .int .u64 (sai : Nat), .slice svo svn svc] 41))) := by
          have k := (Keeps.refl no w2).alloc (.cells #[.int .i64 sk, .int .i64 scl, .int .i64 st, .int .u64 (si : Nat), .slice spo spn spc, .slice sko skn skc, .int .i64 sax, .int .i64 sar, .int .u64 (sai : Nat), .slice svo svn svc] 41)
          exact ⟨(lit_one (E := EE) w2 (⟨sk, scl, st, si, spo, spn, spc, sko, skn, skc, sax, sar, sai, svo, svn, svc⟩ : RE) _ rfl).row, HO2.out.1.own.keepsN k, k⟩
        dsimp only
        clear hs2 hk2
        go_wp2_with (at_builtin; refine wpList_app okE rfl _ _ rfl _ _ _ rs rfl HO2.out.2.2.2 HL.out.2.1 _ _ _ [(⟨sk, scl, st, si, spo, spn, spc, sko, skn, skc, sax, sar, sai, svo, svn, svc⟩ : RE)] rfl rfl (fun h => by cases h) HL.out.1 (by rw [← HO2.out.2.2.2]; show (k + 1) * 128 ≤ 140737488355328; omega) (by rw [← HO2.out.2.2.2]; show k + 1 ≤ 140737488355328; omega) ?_; intro o6 c6 w6 ho6 hap6; have H6 : Hid (Fl w w6 o6 c6 (rs ++ [(⟨sk, scl, st, si, spo, spn, spc, sko, skn, skc, sax, sar, sai, svo, svn, svc⟩ : RE)]) ((ea.take (k + 1)).map fitE) ∧ Keeps no w w6) := (by rw [HTK.out]; exact (HO2.out.1.keepsN HL.out.2.2).app (rt := [(⟨sk, scl, st, si, spo, spn, spc, sko, skn, skc, sax, sar, sai, svo, svn, svc⟩ : RE)]) (et := [fitE e1]) rfl (fun j hj => by have : j = 0 := (by simpa using hj); subst this; exact HO2.out.2.1.keepsN HL.out.2.2) (HO2.out.2.2.1.trans HL.out.2.2) ho6 hap6); clear ho6 hap6)
        go_roundw
        case rel => exact ⟨k + 1, o6, c6, rs ++ [(⟨sk, scl, st, si, spo, spn, spc, sko, skn, skc, sax, sar, sai, svo, svn, svc⟩ : RE)], by omega, by omega, rfl, by go_num, H6.out.1, H6.out.2, by rw [List.length_append, List.length_singleton, ← HO2.out.2.2.2]⟩
        case measure => first | (simp [intOf]; done) | (simp [intOf]; omega)
      · have hk1 : k = min ea.length 60 := by have := HA.out.1; omega
        have H1 : Hid (Fl w wr oo oc rs (fitL ea) ∧ Keeps no w wr ∧ k = (fitL ea).length) := by
          have h := HO.out
          rw [hk1, take_min] at h
          refine ⟨h.1, h.2.1, ?_⟩
          rw [hk1]; unfold fitL; rw [List.length_map, List.length_take]; omega
        clear HO hk1
        by_cases hx : (k : Int) < na
        · have hy : ¬ (k : Int) < 60 := by omega
          go_wp2_with fail
          go_meet
          exact ⟨k, oo, oc, rs, hk60, rfl, H1⟩
        · go_wp2_with fail
          go_meet
          exact ⟨k, oo, oc, rs, hk60, rfl, H1⟩
  case rest =>
    rename World => w1
    obtain ⟨kl, ol, cl, rl, hkl60, rfl, HL1⟩ := hcut
    have HB1 : Hid (nb = eb.length ∧ Evs w1 ob cb rb eb ∧ RawOk eb) := ⟨HB.out.1, HB.out.2.1.keepsN HL1.out.2.1, HB.out.2.2⟩
    clear HB
    go_upto_block 2 with fail
    go_cut [8] from 43 to 60 (fun s7 wx => ∃ (k : Nat) (oo : Option Addr) (oc : Nat) (rs : List RE), (k : Int) ≤ 60 ∧ s7 = .slice oo k oc ∧ Hid (Fl w1 wx oo oc rs (fitL eb) ∧ Keeps no w1 wx ∧ k = (fitL eb).length))
    case first =>
      clear HA HAT HV hnaI
      go_wp2_with fail
      go_loopw [8, 10] (fun s8 s10 wr => ∃ (k : Nat) (oo : Option Addr) (oc : Nat) (rs : List RE), k ≤ nb ∧ (k : Int) ≤ 60 ∧ s8 = .slice oo k oc ∧ s10 = .int .i64 (k : Nat) ∧ Hid (Fl w1 wr oo oc rs ((eb.take k).map fitE) ∧ Keeps no w1 wr ∧ k = rs.length)) (fun _ s10 _ => 60 - (intOf s10).toNat)
      case atStart => exact ⟨0, none, 0, [], by omega, by decide, rfl, rfl, Fl.nil _ _, Keeps.refl _ _, rfl⟩
      case round =>
        rename World => wr
        obtain ⟨k, oo, oc, rs, hkn, hk60, rfl, rfl, HO⟩ := hrel
        by_cases hlt : k < nb ∧ k < 60
        · have h1 : (k : Int) < nb := by omega
          have h2 : (k : Int) < 60 := by omega
          have hkl : k < eb.length := by have := HB1.out.1; omega
          have hva := HB1.out.2.1.keepsN HO.out.2.1
          obtain ⟨g, p, ev1, A1⟩ := hva.sl.atE (j := k) (by rw [hva.len]; exact hkl)
          have q1 := HB1.out.2.1.each k hkl
          have hm := getD_mem_lt ev0 hkl
          have HTK : Hid ((eb.take (k + 1)).map fitE = (eb.take k).map fitE ++ [fitE (eb.getD k ev0)]) := by
            show _ = _
            rw [take_succ_getD eb k ev0 hkl, List.map_append]; rfl
          have HFT := fun (r : RE) (hr : EvOf w1 r (eb.getD k ev0)) => fit_any w1 wr HO.out.2.1 r _ hr (HB1.out.2.2.sz _ hm) (HB1.out.2.2.kind _ hm) (HB1.out.2.2.client _ hm) (HB1.out.2.2.txn _ hm) (HB1.out.2.2.ares _ hm)
          generalize eb.getD k ev0 = e1 at q1 HTK HFT
          generalize rb.getD k re0 = r1 at A1 q1
          have HF1 := HFT r1 q1
          clear HFT q1 hm hva hkl
          obtain ⟨ek, ecl, et, ei, po, pn, pc, ko, kn, kc, ax, ar, ai, vo, vn, vc⟩ := r1
          obtain ⟨c0, c1, c2, c3, c4, c5, c6, c7, c8, c9⟩ := A1
          simp only at c0 c1 c2 c3 c4 c5 c6 c7 c8 c9
          unfold aggE cellsE at HF1
          simp only at HF1
          subst ev1
          go_wp2_with fail
          refine HF1.mono ?_
          rintro E w2 ⟨s, rfl, hs2, hk2⟩
          clear c0 c1 c2 c3 c4 c5 c6 c7 c8 c9 HF1
          have HO2 : Hid (Fl w1 w2 oo oc rs ((eb.take k).map fitE) ∧ EvS w1 w2 s (fitE e1) ∧ Keeps no w1 w2 ∧ k = rs.length) := ⟨HO.out.1.keepsN hk2, hs2, HO.out.2.1.trans hk2, HO.out.2.2⟩
          obtain ⟨sk, scl, st, si, spo, spn, spc, sko, skn, skc, sax, sar, sai, svo, svn, svc⟩ := s
          have HL : Hid (Row EE (w2.alloc (.cells #[.int .i64 sk, .int .i64 scl, .int .i64 st, .int .u64 (si : Nat), .slice spo spn spc, .slice sko skn skc, .int .i64 sax, .int .i64 sar, .int .u64 (sai : Nat), .slice svo svn svc] 41)) (some ⟨w2.heap.size, 0, none⟩) [(⟨sk, scl, st, si, spo, spn, spc, sko, skn, skc, sax, sar, sai, svo, svn, svc⟩ : RE)] ∧ Own EE (w2.alloc (.cells #[.int .i64 sk, .int .i64 scl, .int .i64 st, .int .u64 (si : Nat), .slice spo spn spc, .slice sko skn skc, .int .i64 sax, .int .i64 sar, .int .u64 (sai : Nat), .slice svo svn svc] 41)) oo oc rs ∧ Keeps no w2 (w2.alloc (.cells #[.int .i64 sk, .int .i64 scl, .int .i64 st, .int .u64 (si : Nat), .slice spo spn spc, .slice sko skn skc, .int .i64 sax, .int .i64 sar, .int .u64 (sai : Nat), .slice svo svn svc] 41))) := by
            have k := (Keeps.refl no w2).alloc (.cells #[.int .i64 sk, .int .i64 scl, .int .i64 st, .int .u64 (si : Nat), .slice spo spn spc, .slice sko skn skc, .int .i64 sax, .int .i64 sar, .int .u64 (sai : Nat), .slice svo svn svc] 41)
            exact ⟨(lit_one (E := EE) w2 (⟨sk, scl, st, si, spo, spn, spc, sko, skn, skc, sax, sar, sai, svo, svn, svc⟩ : RE) _ rfl).row, HO2.out.1.own.keepsN k, k⟩
          dsimp only
          clear hs2 hk2
          go_wp2_with (at_builtin; refine wpList_app okE rfl _ _ rfl _ _ _ rs rfl HO2.out.2.2.2 HL.out.2.1 _ _ _ [(⟨sk, scl, st, si, spo, spn, spc, sko, skn, skc, sax, sar, sai, svo, svn, svc⟩ : RE)] rfl rfl (fun h => by cases h) HL.out.1 (by rw [← HO2.out.2.2.2]; show (k + 1) * 128 ≤ 140737488355328; omega) (by rw [← HO2.out.2.2.2]; show k + 1 ≤ 140737488355328; omega) ?_; intro o6 c6 w6 ho6 hap6; have H6 : Hid (Fl w1 w6 o6 c6 (rs ++ [(⟨sk, scl, st, si, spo, spn, spc, sko, skn, skc, sax, sar, sai, svo, svn, svc⟩ : RE)]) ((eb.take (k + 1)).map fitE) ∧ Keeps no w1 w6) := (by rw [HTK.out]; exact (HO2.out.1.keepsN HL.out.2.2).app (rt := [(⟨sk, scl, st, si, spo, spn, spc, sko, skn, skc, sax, sar, sai, svo, svn, svc⟩ : RE)]) (et := [fitE e1]) rfl (fun j hj => by have : j = 0 := (by simpa using hj); subst this; exact HO2.out.2.1.keepsN HL.out.2.2) (HO2.out.2.2.1.trans HL.out.2.2) ho6 hap6); clear ho6 hap6)
          go_roundw
          case rel => exact ⟨k + 1, o6, c6, rs ++ [(⟨sk, scl, st, si, spo, spn, spc, sko, skn, skc, sax, sar, sai, svo, svn, svc⟩ : RE)], by omega, by omega, rfl, by go_num, H6.out.1, H6.out.2, by rw [List.length_append, List.length_singleton, ← HO2.out.2.2.2]⟩
          case measure => first | (simp [intOf]; done) | (simp [intOf]; omega)
        · have hk1 : k = min eb.length 60 := by have := HB1.out.1; omega
          have H1 : Hid (Fl w1 wr oo oc rs (fitL eb) ∧ Keeps no w1 wr ∧ k = (fitL eb).length) := by
            have h := HO.out
            rw [hk1, take_min] at h
            refine ⟨h.1, h.2.1, ?_⟩
            rw [hk1]; unfold fitL; rw [List.length_map, List.length_take]; omega
          clear HO hk1
          by_cases hx : (k : Int) < nb
          · have hy : ¬ (k : Int) < 60 := by omega
            go_wp2_with fail
            go_meet
            exact ⟨k, oo, oc, rs, hk60, rfl, H1⟩
          · go_wp2_with fail
            go_meet
            exact ⟨k, oo, oc, rs, hk60, rfl, H1⟩
    case rest =>
      rename World => w2
      obtain ⟨km, om, cm, rm, hkm60, rfl, HM2⟩ := hcut
      have HK2 : Hid (Keeps no w w2) := HL1.out.2.1.trans HM2.out.2.1
      have HP : Hid (SzL (fitL ea) ∧ SzL (fitL eb) ∧ SzL (fitL ea ++ fitL eb) ∧ (fitL ea).all mayB = true ∧ (fitL eb).all mayB = true ∧ (txtE (fitL ea ++ fitL eb)).size ≤ 2000000000) := by
        refine ⟨fitL_szl HA.out.2.2, fitL_szl HB1.out.2.2, both_szl HA.out.2.2 HB1.out.2.2, fitL_may ea, fitL_may eb, ?_⟩
        have hb := txt_size (es := fitL ea ++ fitL eb) (by rw [List.all_append, fitL_may, fitL_may]; rfl) (both_szl HA.out.2.2 HB1.out.2.2).each
        rw [List.map_append, List.sum_append] at hb
        have := fitL_wt HA.out.2.2
        have := fitL_wt HB1.out.2.2
        omega
      have HF2 : Hid (Fl w w2 ol cl rl (fitL ea) ∧ kl = (fitL ea).length ∧ Fl w1 w2 om cm rm (fitL eb) ∧ km = (fitL eb).length ∧ w.heap.size ≤ w2.heap.size ∧ w1.heap.size ≤ w2.heap.size) := ⟨HL1.out.1.keepsN HM2.out.2.1, HL1.out.2.2, HM2.out.1, HM2.out.2.2, HK2.out.size, HM2.out.2.1.size⟩
      clear HL1 HM2 HA HB1
      generalize fitL ea = la at HP HF2
      generalize fitL eb = lb at HP HF2
      have HMB : Hid ((la ++ lb).all mayB = true) := by show _ = _; rw [List.all_append, HP.out.2.2.2.1, HP.out.2.2.2.2.1]; rfl
      have HC2 : Hid (Calls Tryd.prog 8 #[.slice ol kl cl] w2 fun E w' => E = .returned (.tuple #[.string (txtE la), .int .i64 0]) ∧ Keeps no w2 w') := by
        have h := print_any w2 (HV.out.keepsN HK2.out) ol kl cl rl la HF2.out.2.1 HF2.out.1.evs HP.out.1
        rw [printV_txt HP.out.2.2.2.1] at h
        exact h
      go_wp2_with fail
      refine HC2.out.mono ?_
      rintro E w3 ⟨rfl, hk3⟩
      have HK3 : Hid (Keeps no w2 w3) := hk3
      clear HC2 hk3
      have HC3 : Hid (Calls Tryd.prog 8 #[.slice om km cm] w3 fun E w' => E = .returned (.tuple #[.string (txtE lb), .int .i64 0]) ∧ Keeps no w3 w') := by
        have h := print_any w3 (HV.out.keepsN (HK2.out.trans HK3.out)) om km cm rm lb HF2.out.2.2.2.1 (HF2.out.2.2.1.keepsN HK3.out).evs HP.out.2.1
        rw [printV_txt HP.out.2.2.2.2.1] at h
        exact h
      go_wp2_with fail
      refine HC3.out.mono ?_
      rintro E w4 ⟨rfl, hk4⟩
      have HK4 : Hid (Keeps no w2 w4) := HK3.out.trans hk4
      clear HC3 hk4 HK3
      have HF4 : Hid (Fl w w4 ol cl rl la ∧ Fl w1 w4 om cm rm lb) := ⟨HF2.out.1.keepsN HK4.out, HF2.out.2.2.1.keepsN HK4.out⟩
      have HN4 : Hid (kl = rl.length ∧ km = rm.length ∧ (kl : Int) ≤ 60 ∧ (km : Int) ≤ 60) := ⟨by rw [HF2.out.1.len]; exact HF2.out.2.1, by rw [HF2.out.2.2.1.len]; exact HF2.out.2.2.2.1, hkl60, hkm60⟩
      go_wp2_with (at_builtin; first
        | (refine wpList_app okE rfl _ _ rfl none 0 0 ([] : List RE) rfl rfl (own_nil _) _ _ _ rl rfl HN4.out.1 (fun h => (HF4.out.1.own.cap).2 h) HF4.out.1.own.row (by have := HN4.out; simp only [List.length_nil]; show (0 + rl.length) * 128 ≤ _; omega) (by have := HN4.out; simp only [List.length_nil]; omega) ?_; intro o5 c5 w5 ho5 hap5; have H5 : Hid (Fl w4 w5 o5 c5 rl la ∧ Keeps no w4 w5) := (Fl.app (Fl.nil w4 w4) (rt := rl) (et := la) HF4.out.1.len (fun j hj => (HF4.out.1.each j hj).base (Nat.le_trans HF2.out.2.2.2.2.1 HK4.out.size)) (Keeps.refl _ _) ho5 hap5); clear ho5 hap5)
        | go_loud (refine wpList_app okE rfl _ _ rfl _ _ _ rl rfl (by first | exact HN4.out.1 | (rw [Nat.zero_add]; exact HN4.out.1)) H5.out.1.own _ _ _ rm rfl HN4.out.2.1 (fun h => (HF4.out.2.own.cap).2 h) (HF4.out.2.own.keepsN H5.out.2).row (by have := HN4.out; show (rl.length + rm.length) * 128 ≤ _; omega) (by have := HN4.out; omega) ?_; intro o6 c6 w6 ho6 hap6; have H6 : Hid (Fl w4 w6 o6 c6 (rl ++ rm) (la ++ lb) ∧ Keeps no w4 w6) := (H5.out.1.app (rt := rm) (et := lb) HF4.out.2.len (fun j hj => ((HF4.out.2.each j hj).keepsN H5.out.2).base (Nat.le_trans HF2.out.2.2.2.2.2 HK4.out.size)) H5.out.2 ho6 hap6); clear ho6 hap6))
      have HK6 : Hid (Keeps no w w6) := HK2.out.trans (HK4.out.trans H6.out.2)
      have HB6 : Hid (Evs w6 o6 c6 (rl ++ rm) (la ++ lb) ∧ kl + km = (la ++ lb).length) := ⟨H6.out.1.evs, by rw [List.length_append, ← HF2.out.2.1, ← HF2.out.2.2.2.1]⟩
      clear H5 H6 HF4 HN4 HF2 HK2 HK4
      obtain ⟨N, hN⟩ : ∃ N, N = kl + km := ⟨_, rfl⟩
      try rw [Nat.zero_add]
      rw [← hN] at HB6 ⊢
      have hNI : (N : Int) ≤ 120 := by omega
      clear hN hkl60 hkm60
      have HC6 : Hid (Calls Tryd.prog 8 #[.slice o6 N c6] w6 fun E w' => E = .returned (.tuple #[.string (txtE (la ++ lb)), .int .i64 0]) ∧ Keeps no w6 w') := by
        have h := print_any w6 (HV.out.keepsN HK6.out) o6 N c6 (rl ++ rm) (la ++ lb) HB6.out.2 HB6.out.1 HP.out.2.2.1
        rw [printV_txt HMB.out] at h
        exact h
      trace_state
      go_wp2_with fail
      refine HC6.out.mono ?_
      rintro E w7 ⟨rfl, hk7⟩
      have HK7 : Hid (Keeps no w w7) := HK6.out.trans hk7
      have HB7 : Hid (Evs w7 o6 c6 (rl ++ rm) (la ++ lb) ∧ N = (la ++ lb).length) := ⟨HB6.out.1.keepsN hk7, HB6.out.2⟩
      clear HC6 hk7 HB6 HK6
      have HC7 : Hid (Calls Tryd.prog 6 #[.string (txtE (la ++ lb))] w7 fun E w' => Keeps no w7 w' ∧ ∃ (o : Option Addr) (c : Nat) (rs : List RE), E = .returned (.tuple #[.slice o N c, .int .i64 0, .int .i64 0]) ∧ Evs w' o c rs (la ++ lb)) := by
        have h := parse_evs w7 (HV.out.keepsN HK7.out) (txtE (la ++ lb)) (by have := HP.out.2.2.2.2.2; omega)
        rw [parse_txt HMB.out HP.out.2.2.1.each] at h
        refine h.mono ?_
        rintro E w' ⟨hk, o, n, c, rs, es, rfl, hn, hE, _, _, hl, hB⟩
        have e' : es = la ++ lb := evB_inj hl (by rw [List.length_map]) hB (written_evB HMB.out HP.out.2.2.1.each)
        subst e'
        exact ⟨hk, o, c, rs, by rw [hn, HB7.out.2], hE⟩
      go_wp2_with fail
      refine HC7.out.mono ?_
      rintro E w8 ⟨hk8, o8, c8, r8, rfl, hE8⟩
      have HK8 : Hid (Keeps no w w8) := HK7.out.trans hk8
      have HB8 : Hid (Evs w8 o6 c6 (rl ++ rm) (la ++ lb) ∧ N = (la ++ lb).length ∧ Evs w8 o8 c8 r8 (la ++ lb)) := ⟨HB7.out.1.keepsN hk8, HB7.out.2, hE8⟩
      clear HC7 hk8 HB7 HK7 hE8
      have HC8 : Hid (Calls Tryd.prog 7 #[] w8 fun e w' => e = .returned (.bool true) ∧ Keeps no w8 w') := known_any w8 (HV.out.keepsN HK8.out)
      go_wp2_with fail
      refine HC8.out.mono ?_
      rintro E w9 ⟨rfl, hk9⟩
      have HK9 : Hid (Keeps no w w9) := HK8.out.trans hk9
      have HC9 : Hid (Calls Tryd.prog 10 #[.slice o8 N c8, .slice o6 N c6] w9 fun e w' => e = .returned (.bool true) ∧ Keeps no w9 w') := by
        have h := Same_any w9 o8 N c8 o6 N c6 r8 (rl ++ rm) (la ++ lb) (la ++ lb) HB8.out.2.1 HB8.out.2.1 (HB8.out.2.2.keepsN hk9) (HB8.out.1.keepsN hk9) HP.out.2.2.1 HP.out.2.2.1
        rw [decide_eq_true rfl] at h
        exact h
      have HN : Hid (N = (la ++ lb).length) := HB8.out.2.1
      clear HC8 hk9 HB8 HK8
      have heq : ByteArray.toList (txtE (la ++ lb)) = (txtE la ++ txtE lb).toList := by
        rw [Lib.toList_data, Lib.toList_data]
        unfold txtE
        simp [ByteArray.data_append, List.flatMap_append]
      have hno : ¬ (9223372036854775807 < ByteArray.size (txtE la) + ByteArray.size (txtE lb)) := by
        have h := HP.out.2.2.2.2.2
        have h2 := congrArg List.length heq
        rw [Lib.toList_data, Lib.toList_data, ByteArray.data_append, Array.toList_append, List.length_append, data_len, data_len, data_len] at h2
        omega
      go_wp2_with fail
      refine HC9.out.mono ?_
      rintro E w10 ⟨rfl, hk10⟩
      have HK10 : Hid (Keeps no w w10) := HK9.out.trans hk10
      clear HC9 hk10 HK9 heq hno
      have HSU : Hid ((txtE (la ++ lb)).size = ((la ++ lb).flatMap lineW).length) := by show (((la ++ lb).flatMap lineW).toArray).size = _; rw [List.size_toArray]
      have HLS : Hid ((la ++ lb).length ≤ (txtE (la ++ lb)).size) := by
        show _ ≤ _
        rw [HSU.out]
        exact flat_ge lineW (fun e => by unfold lineW; simp only [List.length_append, List.length_singleton]; omega) _
      by_cases hu0 : (txtE (la ++ lb)).size = 0
      · have hu0I : ((txtE (la ++ lb)).size : Int) = 0 := by omega
        have hN0 : N = 0 := by have := HLS.out; have := HN.out; omega
        subst hN0
        go_wp2_with fail
        go_ret
        exact ⟨rfl, HK10.out⟩
      · have hu1 : ¬ ((txtE (la ++ lb)).size : Int) = 0 := by omega
        obtain ⟨m, hm⟩ : ∃ m, (txtE (la ++ lb)).size = m + 1 := ⟨(txtE (la ++ lb)).size - 1, by omega⟩
        have hmI : ((txtE (la ++ lb)).size : Int) = (m : Int) + 1 := by omega
        have hmb : (m : Int) ≤ 2000000000 := by have := HP.out.2.2.2.2.2; omega
        have HRT : Hid (∀ W, Calls Tryd.prog 9 #[.int .i64 at', .int .i64 (m : Nat)] W fun e w' => e = .returned (.int .i64 ((rst at' m : Nat) : Int)) ∧ w' = W) := fun W => rest_any at' m W HAT.out (by have := HP.out.2.2.2.2.2; omega)
        go_wp2_with fail
        refine (HRT.out _).mono ?_
        rintro E e11 ⟨rfl, he11⟩
        subst he11
        have hrl := rst_le at' m
        generalize rst at' m = k at hrl ⊢
        have hkm : (k : Int) ≤ m := by omega
        clear HRT hrl HAT
        obtain ⟨U, hU⟩ : ∃ U, U = txtE (la ++ lb) := ⟨_, rfl⟩
        rw [← hU] at hm hmI ⊢
        have HU : Hid (U = txtE (la ++ lb)) := hU
        clear hU hu0 hu1
        go_upto_block 4 with fail
        go_wp2_with fail
        have hmi2 : ∀ i : Nat, i < k → i < U.size := fun i hi => by omega
        go_loopw [22, 23] (fun s22 s23 wr => ∃ (i n : Nat), i ≤ k ∧ s23 = .int .i64 (i : Nat) ∧ s22 = .int .i64 (n : Nat) ∧ (n : Int) ≤ i ∧ Hid (n = nlc (U.data.toList.take i)) ∧ wr = e11) (fun _ s23 _ => k - (intOf s23).toNat)
        case atStart => exact ⟨0, 0, by omega, rfl, rfl, by decide, rfl, rfl⟩
        case round =>
          rename World => wr
          obtain ⟨i, n, hik, rfl, rfl, hni, HI, rfl⟩ := hrel
          by_cases hlt : i < k
          · have hltI : (i : Int) < k := by omega
            have hiU : i < U.size := hmi2 i hlt
            have hiI : (i : Int) < (U.size : Int) := by omega
            have HCT : Hid ((U[i].toNat = 10 → n + 1 = nlc (U.data.toList.take (i + 1))) ∧ (U[i].toNat ≠ 10 → n = nlc (U.data.toList.take (i + 1)))) := by
              have hl : i < U.data.toList.length := by rw [data_len]; exact hiU
              have e1 : U.data.toList.take (i + 1) = U.data.toList.take i ++ [U[i]] := by
                rw [List.take_succ_eq_append_getElem hl]; rfl
              rw [e1, HI.out]
              unfold nlc
              rw [List.countP_append, List.countP_singleton]
              refine ⟨fun h => ?_, fun h => ?_⟩
              · rw [if_pos (by rw [beq_iff_eq, ← UInt8.toNat_inj]; exact h)]
              · rw [if_neg (by rw [beq_iff_eq, ← UInt8.toNat_inj]; exact h)]; rfl
            go_wp2_with fail
            · rename_i hc
              have hc2 : U[i].toNat = 10 := by have := beq_iff_eq.1 hc; omega
              exact ⟨⟨i + 1, n + 1, by omega, by simp, by simp, by omega, HCT.out.1 hc2, trivial⟩, by simp [intOf]; omega⟩
            · rename_i hc
              have hc2 : U[i].toNat ≠ 10 := by have := beq_eq_false_iff_ne.1 hc; omega
              exact ⟨⟨i + 1, n, by omega, by simp, rfl, by omega, HCT.out.2 hc2, trivial⟩, by simp [intOf]; omega⟩
          · have hltI : ¬ (i : Int) < k := by omega
            have hik2 : i = k := by omega
            subst hik2
            have hdl : U.data.toList = (la ++ lb).flatMap lineW := by rw [HU.out]; rfl
            have hil : i ≤ ((la ++ lb).flatMap lineW).length := by rw [← hdl, data_len]; omega
            have hx := cut_at HMB.out HP.out.2.2.1.each hil
            rw [← hdl, ← HI.out] at hx
            have hex : (ByteArray.extract U 0 i).data.toList = U.data.toList.take i := by simp [ByteArray.data_extract]
            have hPA := parse_evs wr (HV.out.keepsN HK10.out) (ByteArray.extract U 0 i) (by rw [ByteArray.size_extract]; have := HP.out.2.2.2.2.2; rw [← HU.out] at this; omega)
            rw [hex] at hPA
            have HLEN : Hid ((la ++ lb).length ≤ 120) := by have := HN.out; show _ ≤ _; omega
            clear hdl hil hex hmi2
            rcases hx with ⟨p1, p2, p3⟩ | ⟨p1, p2, p3⟩
            · rw [p1] at hPA
              have HPA : Hid (Calls Tryd.prog 6 #[.string (ByteArray.extract U 0 i)] wr fun E w' => Keeps no wr w' ∧ ∃ (o : Option Addr) (c : Nat), E = .returned (.tuple #[.slice o n c, .int .i64 0, .int .i64 0])) := by
                refine hPA.mono ?_
                rintro E w' ⟨hk, o, n2, c, rs, es, rfl, hn, _, _, _, hl, _⟩
                refine ⟨hk, o, c, ?_⟩
                rw [hn, hl, List.length_map, List.length_take, Nat.min_eq_left p3]
              clear hPA p1 p3
              rcases Nat.eq_zero_or_pos i with h0 | h0
              · have hib : ((i : Int) == 0) = true := by rw [beq_iff_eq]; omega
                clear h0 p2
                go_wp2_with fail
                refine HPA.out.mono ?_
                rintro E w11 ⟨hk11, o11, c11, rfl⟩
                have HK11 : Hid (Keeps no w w11) := HK10.out.trans hk11
                clear hk11 HPA
                go_wp2_with fail
                go_ret
                exact ⟨rfl, HK11.out⟩
              · obtain ⟨j, rfl⟩ : ∃ j, i = j + 1 := ⟨i - 1, by omega⟩
                have hjU : j < U.size := by omega
                have hjI : (j : Int) < (U.size : Int) := by omega
                have hb : ((((U[j]).toNat : Nat) : Int) == 10) = true := by
                  rcases p2 with p2 | p2
                  · omega
                  · rw [Nat.add_sub_cancel, List.getD_eq_getElem?_getD, List.getElem?_eq_getElem (by rw [data_len]; exact hjU)] at p2
                    have e1 : U[j] = 10 := p2
                    rw [e1]; rfl
                clear p2
                go_wp2_with fail
                refine HPA.out.mono ?_
                rintro E w11 ⟨hk11, o11, c11, rfl⟩
                have HK11 : Hid (Keeps no w w11) := HK10.out.trans hk11
                clear hk11 HPA
                go_wp2_with fail
                go_ret
                exact ⟨rfl, HK11.out⟩
            · rw [p1] at hPA
              have HPA : Hid (Calls Tryd.prog 6 #[.string (ByteArray.extract U 0 i)] wr fun E w' => Keeps no wr w' ∧ E = .returned (.tuple #[.slice none 0 0, .int .i64 ((n + 1 : Nat) : Int), .int .i64 2])) := hPA
              obtain ⟨j, rfl⟩ : ∃ j, i = j + 1 := ⟨i - 1, by omega⟩
              have hjU : j < U.size := by omega
              have hjI : (j : Int) < (U.size : Int) := by omega
              have hb : ((((U[j]).toNat : Nat) : Int) == 10) = false := by
                rw [Nat.add_sub_cancel, List.getD_eq_getElem?_getD, List.getElem?_eq_getElem (by rw [data_len]; exact hjU)] at p3
                rw [beq_eq_false_iff_ne]
                intro e1
                apply p3
                show U[j] = 10
                rw [← UInt8.toNat_inj]
                have : (10 : UInt8).toNat = 10 := rfl
                omega
              clear hPA p1 p2 p3
              go_wp2_with fail
              refine HPA.out.mono ?_
              rintro E w11 ⟨hk11, rfl⟩
              have HK11 : Hid (Keeps no w w11) := HK10.out.trans hk11
              clear hk11 HPA
              go_wp2_with fail
              go_ret
              exact ⟨rfl, HK11.out⟩
end Go.Proofs.YtjkljljmjjnneaaDoor
