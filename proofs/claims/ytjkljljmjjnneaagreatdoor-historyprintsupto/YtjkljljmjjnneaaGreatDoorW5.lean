/- may; Print. -/
import Derived.Test.YtjkljljmjjnneaaGreatDoorW4
namespace Go.Proofs.YtjkljljmjjnneaaGreatDoor
open Go.RowKit Go.Sort Orl
set_option linter.unusedVariables false
set_option linter.unusedSimpArgs false

def mayK (k : Int) (i pn kn : Nat) (z a : Bool) : Bool := if k = 1 then decide (kn = 0) && z else if k = 2 then decide (i = 0) && decide (pn = 0) && z else if k = 3 then decide (i = 0) && decide (pn = 0) && decide (kn = 0) && a else false
set_option maxRecDepth 10000 in
set_option maxHeartbeats 8000000 in
theorem may_any (w : World) (r : RE) (e : Ev) (he : EvOf w r e) (hz : SzE e) :
    Calls Tryz.prog 19 #[aggE r] w fun E w' => E = .returned (.bool (mayB e)) ∧ Keeps no w w' := by
  obtain ⟨ek, ecl, et, ei, po, pn, pc, ko, kn, kc, ax, ar, ai, vo, vn, vc⟩ := r
  obtain ⟨h1, h2, h3, h4, hpn, hps, hkn, hks, h5, h6, h7, hvn, rv, hvs⟩ := he
  simp only at h1 h2 h3 h4 hpn hps hkn hks h5 h6 h7 hvn hvs
  unfold aggE cellsE
  have hvb : (vn : Int) ≤ 2199023255500 := by have := hz.vl; omega
  have hpb : (pn : Int) ≤ 4398046511000 := by have := hz.pl; omega
  have hkb : (kn : Int) ≤ 8796093022000 := by have := hz.kl; omega
  have HK : Hid (∀ cs t, Keeps no w (w.alloc (.cells cs t))) := fun cs t => (Keeps.refl _ _).alloc _
  obtain ⟨z, hzz⟩ : ∃ z, z = zeroB ax ar ai e.vers := ⟨_, rfl⟩
  obtain ⟨a, haa⟩ : ∃ a, a = ansB ax ar e.vers et := ⟨_, rfl⟩
  have HZ : Hid (∀ W, Calls Tryz.prog 30 #[.agg #[.int .i64 ax, .int .i64 ar, .int .u64 (ai : Nat), .slice vo vn vc]] W fun e w' => e = .returned (.bool z) ∧ Keeps no W w') := fun W => by
    rw [hzz]; exact isZero_any W ax ar ai vo vn vc e.vers hvn hvb
  have HA : Hid (∀ W, Keeps no w W → Calls Tryz.prog 31 #[.agg #[.int .i64 ax, .int .i64 ar, .int .u64 (ai : Nat), .slice vo vn vc], .int .i64 et] W fun e w' => e = .returned (.bool a) ∧ Keeps no W w') := fun W hW => by
    rw [haa]; exact mayAnswer_any W ax ar ai vo vn vc rv e.vers et hvn (hvs.keepsN hW) hvb hz.vk
  obtain ⟨R, hR⟩ : ∃ R, R = mayB e := ⟨_, rfl⟩
  have HR : Hid (R = (decide (0 ≤ ecl ∧ ecl < 16) && decide (1 ≤ et) && mayK ek ei pn kn z a)) := by
    show _ = _
    rw [hR, hzz, haa, h1, h2, h3, h4, hpn, hkn, h5, h6, h7]
    rfl
  rw [← hR]
  clear h1 h2 h3 h4 hpn hps hkn hks h5 h6 h7 hvn hvs hz hzz haa hR
  obtain ⟨cb, hcb⟩ : ∃ cb, cb = decide (0 ≤ ecl ∧ ecl < 16) := ⟨_, rfl⟩
  have HCL : Hid (∀ W, Calls Tryz.prog 21 #[.int .i64 ecl] W fun e w' => e = .returned (.bool cb) ∧ w' = W) := fun W => by rw [hcb]; exact isClient_any W ecl
  rw [← hcb] at HR
  clear hcb
  cases cb with
  | false =>
    go_enter Tryz.func19, Tryz.ntmps19
    go_wp2_with fail
    refine (HCL.out _).mono ?_
    rintro e' w1 ⟨rfl, rfl⟩
    go_wp2_with fail
    go_ret
    exact ⟨by (try rw [HR.out, t1']); (try simp only [HR.out]); simp [mayK], HK.out _ _⟩
  | true =>
    by_cases t1 : et < 1
    · have t1' : decide (1 ≤ et) = false := decide_eq_false (by omega)
      go_enter Tryz.func19, Tryz.ntmps19
      go_wp2_with fail
      refine (HCL.out _).mono ?_
      rintro e' w1 ⟨rfl, rfl⟩
      go_wp2_with fail
      go_ret
      exact ⟨by (try rw [HR.out, t1']); (try simp only [HR.out]); simp [mayK], HK.out _ _⟩
    · have t1' : decide (1 ≤ et) = true := decide_eq_true (by omega)
      by_cases k1 : ek = 1
      · subst k1
        by_cases g1 : kn = 0
        · subst g1
          go_enter Tryz.func19, Tryz.ntmps19
          go_wp2_with fail
          refine (HCL.out _).mono ?_
          rintro e' w1 ⟨rfl, rfl⟩
          go_wp2_with fail
          refine (HZ.out _).mono ?_
          rintro e' w2 ⟨rfl, hk2⟩
          go_wp2_with fail
          go_ret
          exact ⟨by rw [HR.out, t1']; simp [mayK], (HK.out _ _).trans hk2⟩
        · have g1' : ¬ (kn : Int) = 0 := by omega
          go_enter Tryz.func19, Tryz.ntmps19
          go_wp2_with fail
          refine (HCL.out _).mono ?_
          rintro e' w1 ⟨rfl, rfl⟩
          go_wp2_with fail
          go_ret
          exact ⟨by (try rw [HR.out, t1']); (try simp only [HR.out]); simp [mayK, g1], HK.out _ _⟩
      · by_cases k2 : ek = 2
        · subst k2
          by_cases g1 : ei = 0
          · subst g1
            by_cases g2 : pn = 0
            · subst g2
              go_enter Tryz.func19, Tryz.ntmps19
              go_wp2_with fail
              refine (HCL.out _).mono ?_
              rintro e' w1 ⟨rfl, rfl⟩
              go_wp2_with fail
              refine (HZ.out _).mono ?_
              rintro e' w2 ⟨rfl, hk2⟩
              go_wp2_with fail
              go_ret
              exact ⟨by rw [HR.out, t1']; simp [mayK], (HK.out _ _).trans hk2⟩
            · have g2' : ¬ (pn : Int) = 0 := by omega
              go_enter Tryz.func19, Tryz.ntmps19
              go_wp2_with fail
              refine (HCL.out _).mono ?_
              rintro e' w1 ⟨rfl, rfl⟩
              go_wp2_with fail
              go_ret
              exact ⟨by (try rw [HR.out, t1']); (try simp only [HR.out]); simp [mayK, g2], HK.out _ _⟩
          · have g1' : ¬ (ei : Int) = 0 := by omega
            go_enter Tryz.func19, Tryz.ntmps19
            go_wp2_with fail
            refine (HCL.out _).mono ?_
            rintro e' w1 ⟨rfl, rfl⟩
            go_wp2_with fail
            go_ret
            exact ⟨by (try rw [HR.out, t1']); (try simp only [HR.out]); simp [mayK, g1], HK.out _ _⟩
        · by_cases k3 : ek = 3
          · subst k3
            by_cases g1 : ei = 0
            · subst g1
              by_cases g2 : pn = 0
              · subst g2
                by_cases g3 : kn = 0
                · subst g3
                  go_enter Tryz.func19, Tryz.ntmps19
                  go_wp2_with fail
                  refine (HCL.out _).mono ?_
                  rintro e' w1 ⟨rfl, rfl⟩
                  go_wp2_with fail
                  refine (HA.out _ (HK.out _ _)).mono ?_
                  rintro e' w2 ⟨rfl, hk2⟩
                  go_wp2_with fail
                  go_ret
                  exact ⟨by rw [HR.out, t1']; simp [mayK], (HK.out _ _).trans hk2⟩
                · have g3' : ¬ (kn : Int) = 0 := by omega
                  go_enter Tryz.func19, Tryz.ntmps19
                  go_wp2_with fail
                  refine (HCL.out _).mono ?_
                  rintro e' w1 ⟨rfl, rfl⟩
                  go_wp2_with fail
                  go_ret
                  exact ⟨by (try rw [HR.out, t1']); (try simp only [HR.out]); simp [mayK, g3], HK.out _ _⟩
              · have g2' : ¬ (pn : Int) = 0 := by omega
                go_enter Tryz.func19, Tryz.ntmps19
                go_wp2_with fail
                refine (HCL.out _).mono ?_
                rintro e' w1 ⟨rfl, rfl⟩
                go_wp2_with fail
                go_ret
                exact ⟨by (try rw [HR.out, t1']); (try simp only [HR.out]); simp [mayK, g2], HK.out _ _⟩
            · have g1' : ¬ (ei : Int) = 0 := by omega
              go_enter Tryz.func19, Tryz.ntmps19
              go_wp2_with fail
              refine (HCL.out _).mono ?_
              rintro e' w1 ⟨rfl, rfl⟩
              go_wp2_with fail
              go_ret
              exact ⟨by (try rw [HR.out, t1']); (try simp only [HR.out]); simp [mayK, g1], HK.out _ _⟩
          · go_enter Tryz.func19, Tryz.ntmps19
            go_wp2_with fail
            refine (HCL.out _).mono ?_
            rintro e' w1 ⟨rfl, rfl⟩
            go_wp2_with fail
            go_ret
            exact ⟨by (try rw [HR.out, t1']); (try simp only [HR.out]); simp [mayK, k1, k2, k3], HK.out _ _⟩
theorem may_wr {e : Ev} (h : mayB e = true) (hz : SzE e) : WrOk e := by
  unfold mayB at h
  simp only [Bool.and_eq_true, decide_eq_true_eq] at h
  obtain ⟨⟨h1, h2⟩, h3⟩ := h
  refine ⟨⟨h1.1, by omega⟩, ⟨by omega, hz.tx⟩, fun hk => ?_⟩
  rw [if_neg (by omega), if_neg (by omega), if_pos hk] at h3
  unfold ansB at h3
  simp only [Bool.and_eq_true, decide_eq_true_eq] at h3
  exact ⟨h3.2.1.1.2, h3.2.1.2⟩
def printV (es : List Ev) : Value := if es.all mayB = true then .tuple #[.string ⟨(es.flatMap lineW).toArray⟩, .int .i64 0] else .tuple #[.string ⟨#[]⟩, .int .i64 1]
theorem lineW_wt {e : Ev} (hz : SzE e) (ho : WrOk e) : (lineW e).length ≤ wtE e := by
  have a1 := numW_len (n := e.client.toNat) (by have := ho.cl; omega)
  have a2 := numW_len (n := e.txn.toNat) (by have := ho.tx; omega)
  have a3 := numW_len hz.id
  have a4 := numW_len hz.aid
  have b1 := flat_le pairW wtP e.pairs (fun p _ => pairW_wt p)
  have b2 := flat_le (keyW 32) (fun k => wtT k + 1) e.keys (fun k _ => keyW_wt 32 k)
  have b3 := flat_le (fun v => 32 :: verW v) (fun v => wtV v + 1) e.vers (fun v hv => by rw [List.length_cons]; have := verW_wt (hz.vid v hv); omega)
  have b4 := wordL_len e.ares.toNat
  have key : (evW e).length ≤ (e.pairs.map wtP).sum + (e.keys.map fun k => wtT k + 1).sum + (e.vers.map fun v => wtV v + 1).sum + 50 := by
    unfold evW
    split
    · unfold writeW pairsW; simp only [List.length_append, List.length_cons, List.length_nil]; omega
    · split
      · unfold readW keysW; simp only [List.length_append, List.length_cons, List.length_nil]; omega
      · split
        · unfold ansW versW; simp only [List.length_append, List.length_cons, List.length_nil]; omega
        · simp
  unfold lineW wtE
  simp only [List.length_append, List.length_cons, List.length_nil]
  omega
/-- sizes of a list of events -/
structure SzL (es : List Ev) : Prop where
  each : ∀ e ∈ es, SzE e
  len : es.length ≤ 1099511627000
  wt : (es.map wtE).sum ≤ 140737488355000
set_option maxRecDepth 10000 in
set_option maxHeartbeats 8000000 in
theorem print_any (w : World) (hp : Vs w) (o : Option Addr) (n c : Nat) (rs : List RE) (es : List Ev) (hn : n = es.length) (he : Evs w o c rs es) (hz : SzL es) :
    Calls Tryz.prog 12 #[.slice o n c] w fun E w' => E = .returned (printV es) ∧ Keeps no w w' := by
  have HV : Hid (Vs w ∧ n = es.length ∧ Evs w o c rs es ∧ SzL es) := ⟨hp, hn, he, hz⟩
  have hnb : (n : Int) ≤ 1099511627000 := by have := hz.len; omega
  clear hp hn he hz
  go_enter Tryz.func12, Tryz.ntmps12
  go_wp2_with fail
  go_loopw [11] (fun s11 wr => ∃ k : Nat, k ≤ n ∧ s11 = .int .i64 (k : Nat) ∧ Hid (Keeps no w wr ∧ (es.take k).all mayB = true)) (fun s11 _ => n - (intOf s11).toNat)
  case atStart => exact ⟨0, by omega, rfl, Keeps.refl _ _, rfl⟩
  case round =>
    rename World => wr
    obtain ⟨k, hkk, rfl, HR⟩ := hrel
    by_cases hlt : k < n
    · have hlt' : (k : Int) < n := by omega
      have hkl : k < es.length := by have := HV.out.2.1; omega
      have hvk := HV.out.2.2.1.keepsN HR.out.1
      obtain ⟨g, off, e0', hc⟩ := hvk.sl.atE (j := k) (by rw [hvk.len]; exact hkl)
      obtain ⟨r, hr⟩ : ∃ r, r = rs.getD k re0 := ⟨_, rfl⟩
      have hve := HV.out.2.2.1.each k hkl
      rw [← hr] at hc hve
      have HAL : Hid ((es.take (k + 1)).all mayB = mayB (es.getD k ev0)) := by
        show _ = _
        rw [all_take _ ev0 _ _ hkl, HR.out.2, Bool.true_and]
      have hsz := HV.out.2.2.2.each _ (getD_mem_lt ev0 hkl)
      obtain ⟨ek, ecl, et, ei, po, pn, pc, ko, kn, kc, ax, ar, ai, vo, vn, vc⟩ := r
      have HM : Hid (∀ W, Keeps no w W → Calls Tryz.prog 19 #[.agg #[.int .i64 ek, .int .i64 ecl, .int .i64 et, .int .u64 (ei : Nat), .slice po pn pc, .slice ko kn kc, .int .i64 ax, .int .i64 ar, .int .u64 (ai : Nat), .slice vo vn vc]] W fun E w' => E = .returned (.bool (mayB (es.getD k ev0))) ∧ Keeps no W w') := fun W hW => may_any W ⟨ek, ecl, et, ei, po, pn, pc, ko, kn, kc, ax, ar, ai, vo, vn, vc⟩ _ (hve.keepsN hW) hsz
      have HN : Hid (∀ cs t, Keeps no w (wr.alloc (.cells cs t))) := fun cs t => HR.out.1.trans ((Keeps.refl _ _).alloc _)
      obtain ⟨c0, c1, c2, c3, c4, c5, c6, c7, c8, c9⟩ := hc
      simp only at c0 c1 c2 c3 c4 c5 c6 c7 c8 c9
      clear hr hve hvk hkl hsz
      subst e0'
      go_wp2_with fail
      refine (HM.out _ (HN.out _ _)).mono ?_
      rintro e' w2 ⟨rfl, hk2⟩
      have HK2 : Hid (Keeps no w w2) := (HN.out _ _).trans hk2
      clear hk2 c0 c1 c2 c3 c4 c5 c6 c7 c8 c9
      cases hm : mayB (es.getD k ev0) with
      | true =>
        have HB : Hid ((es.take (k + 1)).all mayB = true) := by show _ = _; rw [HAL.out, hm]
        clear HAL
        go_wp2_with fail
        go_roundw
        case rel => exact ⟨k + 1, by omega, by go_num, HK2.out, HB.out⟩
        case measure => first | (simp [intOf]; done) | (simp [intOf]; omega)
      | false =>
        have HB : Hid (printV es = .tuple #[.string ⟨#[]⟩, .int .i64 1]) := by
          show _ = _
          unfold printV
          rw [if_neg (by rw [all_false _ _ (k + 1) (by rw [HAL.out, hm])]; decide)]
        go_wp2_with fail
        go_ret2
        exact ⟨by rw [HB.out]; rfl, HK2.out⟩
    · have hlt' : ¬ (k : Int) < n := by omega
      have HAL : Hid (es.all mayB = true) := by
        have := HR.out.2
        rw [List.take_of_length_le (by have := HV.out.2.1; omega)] at this
        exact this
      have HWO : Hid (∀ e ∈ es, WrOk e ∧ SzE e) := fun e he => ⟨may_wr (List.all_eq_true.1 HAL.out e he) (HV.out.2.2.2.each e he), HV.out.2.2.2.each e he⟩
      have HV2 : Hid (Vs wr ∧ Evs wr o c rs es ∧ Keeps no w wr) := ⟨HV.out.1.keepsN HR.out.1, HV.out.2.2.1.keepsN HR.out.1, HR.out.1⟩
      obtain ⟨b, hb⟩ : ∃ b, b = wr.heap.size := ⟨_, rfl⟩
      have HX : Hid (∀ W, W = wr.alloc (.cells #[.pointer none, .slice none 0 0] 71) → Bd wr W b []) := by
        rintro W rfl
        rw [hb]
        exact bd_new wr
      go_upto_region 8 with fail
      have h8 := HX.out _ rfl
      rw [← hb]
      clear hb HX HR
      generalize wr.alloc (.cells #[.pointer none, .slice none 0 0] 71) = w8 at h8 ⊢
      have H8 : Hid (Bd wr w8 b []) := h8
      clear h8
      go_wp2_with fail
      go_loopw [21] (fun s21 wz => ∃ k : Nat, k ≤ n ∧ s21 = .int .i64 (k : Nat) ∧ Hid (Bd wr wz b ((es.take k).flatMap lineW))) (fun s21 _ => n - (intOf s21).toNat)
      case atStart => exact ⟨0, by omega, rfl, H8.out⟩
      case round =>
        rename World => wz
        clear H8 hlt hlt' hkk
        obtain ⟨k, hkk, rfl, HR⟩ := hrel
        by_cases hlt : k < n
        · have hlt' : (k : Int) < n := by omega
          have hkl : k < es.length := by have := HV.out.2.1; omega
          have hvk := HV2.out.2.1.keepsN HR.out.kp
          obtain ⟨g, off, e0', hc⟩ := hvk.sl.atE (j := k) (by rw [hvk.len]; exact hkl)
          obtain ⟨r, hr⟩ : ∃ r, r = rs.getD k re0 := ⟨_, rfl⟩
          have hve := HV2.out.2.1.each k hkl
          rw [← hr] at hc hve
          have hwo := HWO.out _ (getD_mem_lt ev0 hkl)
          obtain ⟨ek, ecl, et, ei, po, pn, pc, ko, kn, kc, ax, ar, ai, vo, vn, vc⟩ := r
          have HRM : ((es.take k).flatMap lineW).length + wtE (es.getD k ev0) ≤ 140737488355328 := by
            have h1 := flat_room lineW wtE ev0 es k hkl (fun e he => lineW_wt (HWO.out e he).2 (HWO.out e he).1)
            have := HV.out.2.2.2.wt
            omega
          have HW : Hid (∀ W, Keeps no wz W → Calls Tryz.prog 24 #[.pointer (some ⟨b, 0, none⟩), .agg #[.int .i64 ek, .int .i64 ecl, .int .i64 et, .int .u64 (ei : Nat), .slice po pn pc, .slice ko kn kc, .int .i64 ax, .int .i64 ar, .int .u64 (ai : Nat), .slice vo vn vc]] W (Wr0 wr W b ((es.take k).flatMap lineW) (lineW (es.getD k ev0)))) := fun W hW => writeEvent_any wr W b _ (HR.out.keepsN hW) HV2.out.1 ⟨ek, ecl, et, ei, po, pn, pc, ko, kn, kc, ax, ar, ai, vo, vn, vc⟩ _ hve hwo.2 hwo.1 HRM
          have HSN : Hid ((es.take (k + 1)).flatMap lineW = (es.take k).flatMap lineW ++ lineW (es.getD k ev0)) := flat_snoc _ ev0 _ _ hkl
          have HN : Hid (∀ cs t, Keeps no wz (wz.alloc (.cells cs t))) := fun cs t => (Keeps.refl _ _).alloc _
          obtain ⟨c0, c1, c2, c3, c4, c5, c6, c7, c8, c9⟩ := hc
          simp only at c0 c1 c2 c3 c4 c5 c6 c7 c8 c9
          clear hr hve hvk hkl hwo HRM
          subst e0'
          go_wp2_with fail
          refine (HW.out _ (HN.out _ _)).mono ?_
          rintro e' w2 ⟨rfl, h2, -⟩
          have HB : Hid (Bd wr w2 b ((es.take (k + 1)).flatMap lineW)) := by
            show Bd _ _ _ _
            rw [HSN.out]; exact h2
          clear h2 c0 c1 c2 c3 c4 c5 c6 c7 c8 c9
          go_wp2_with fail
          go_roundw
          case rel => exact ⟨k + 1, by omega, by go_num, HB⟩
          case measure => first | (simp [intOf]; done) | (simp [intOf]; omega)
        · have hlt' : ¬ (k : Int) < n := by omega
          have HB : Hid (Bd wr wz b (es.flatMap lineW)) := by
            have := HR.out
            rw [List.take_of_length_le (by have := HV.out.2.1; omega)] at this
            exact this
          clear HR
          go_wp2_with fail
          refine (bldString_any wr _ b _ HB.out).mono ?_
          rintro e' w3 ⟨rfl, h3, -⟩
          have HK3 : Hid (Keeps no w w3) := HV2.out.2.2.trans h3.kp
          have HP : Hid (printV es = .tuple #[.string ⟨(es.flatMap lineW).toArray⟩, .int .i64 0]) := by
            show _ = _
            unfold printV
            rw [if_pos HAL.out]
          clear h3
          go_wp2_with fail
          go_ret2
          exact ⟨by rw [HP.out]; rfl, HK3.out⟩
end Go.Proofs.YtjkljljmjjnneaaGreatDoor
