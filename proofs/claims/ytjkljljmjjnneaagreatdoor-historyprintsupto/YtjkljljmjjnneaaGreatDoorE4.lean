/- The document's side: May. -/
import Derived.Test.YtjkljljmjjnneaaGreatDoorE3
namespace Go.Proofs.YtjkljljmjjnneaaGreatDoor
open Go.RowKit Go.Sort Orl
set_option linter.unusedVariables false
set_option linter.unusedSimpArgs false

theorem may_eq (e : Ev) : mayB e = (decide (0 ≤ e.client ∧ e.client < 16) && decide (1 ≤ e.txn) && (if e.kind = 1 then decide (e.keys.length = 0) && zeroB e.atxn e.ares e.aid e.vers else if e.kind = 2 then decide (e.id = 0) && decide (e.pairs.length = 0) && zeroB e.atxn e.ares e.aid e.vers else if e.kind = 3 then ansE2 e else false)) := by
  unfold mayB ansE2
  simp only [Bool.and_assoc]
set_option maxRecDepth 10000 in
set_option maxHeartbeats 8000000 in
theorem rMay_any (w : World) (r : RE) (e : Ev) (he : EvOf w r e) (hz : SzE e) :
    Calls Tryz.prog 28 #[aggE r] w fun E w' => E = .returned (.bool (mayB e)) ∧ Keeps no w w' := by
  have HANS : Hid (∀ W, Keeps no w W → Calls Tryz.prog 50 #[aggE r] W fun E w' => E = .returned (.bool (ansE2 e)) ∧ Keeps no W w') := fun W hW => answer_any W r e (he.keepsN hW) hz
  obtain ⟨ek, ecl, et, ei, po, pn, pc, ko, kn, kc, ax, ar, ai, vo, vn, vc⟩ := r
  obtain ⟨h1, h2, h3, h4, hpn, hps, hkn, hks, h5, h6, h7, hvn, rv, hvs⟩ := he
  simp only at h1 h2 h3 h4 hpn hps hkn hks h5 h6 h7 hvn hvs
  unfold aggE cellsE at HANS ⊢
  simp only at HANS ⊢
  have hvb : (vn : Int) ≤ 2199023255500 := by have := hz.vl; omega
  have hpb : (pn : Int) ≤ 4398046511000 := by have := hz.pl; omega
  have hkb : (kn : Int) ≤ 8796093022000 := by have := hz.kl; omega
  have HK : Hid (∀ cs t, Keeps no w (w.alloc (.cells cs t))) := fun cs t => (Keeps.refl _ _).alloc _
  obtain ⟨z, hzz⟩ : ∃ z, z = zeroB ax ar ai e.vers := ⟨_, rfl⟩
  obtain ⟨a, haa⟩ : ∃ a, a = ansE2 e := ⟨_, rfl⟩
  rw [← haa] at HANS
  have HZ : Hid (∀ W, Calls Tryz.prog 49 #[.agg #[.int .i64 ax, .int .i64 ar, .int .u64 (ai : Nat), .slice vo vn vc]] W fun e w' => e = .returned (.bool z) ∧ Keeps no W w') := fun W => by
    rw [hzz]; exact zero_any W ax ar ai vo vn vc e.vers hvn hvb
  obtain ⟨R, hR⟩ : ∃ R, R = mayB e := ⟨_, rfl⟩
  have HR : Hid (R = (decide (0 ≤ ecl ∧ ecl < 16) && decide (1 ≤ et) && (if ek = 1 then decide (kn = 0) && z else if ek = 2 then decide (ei = 0) && decide (pn = 0) && z else if ek = 3 then a else false))) := by
    show _ = _
    rw [hR, may_eq, hzz, haa, h1, h2, h3, h4, hpn, hkn, h5, h6, h7]
  rw [← hR]
  clear h1 h2 h3 h4 hpn hps hkn hks h5 h6 h7 hvn hvs hz hzz haa hR
  by_cases c1 : ecl < 0
  · have HF : Hid (R = false) := by show _ = _; rw [HR.out, decide_eq_false (show ¬ (0 ≤ ecl ∧ ecl < 16) by omega)]; rfl
    clear HR
    go_enter Tryz.func28, Tryz.ntmps28
    go_wp2_with fail
    go_ret
    exact ⟨by rw [HF.out]; rfl, HK.out _ _⟩
  · by_cases c2 : ecl ≥ 16
    · have HF : Hid (R = false) := by show _ = _; rw [HR.out, decide_eq_false (show ¬ (0 ≤ ecl ∧ ecl < 16) by omega)]; rfl
      clear HR
      go_enter Tryz.func28, Tryz.ntmps28
      go_wp2_with fail
      go_ret
      exact ⟨by rw [HF.out]; rfl, HK.out _ _⟩
    · by_cases c3 : et < 1
      · have HF : Hid (R = false) := by show _ = _; rw [HR.out, decide_eq_false (show ¬ 1 ≤ et by omega)]; simp
        clear HR
        go_enter Tryz.func28, Tryz.ntmps28
        go_wp2_with fail
        go_ret
        exact ⟨by rw [HF.out]; rfl, HK.out _ _⟩
      · have HR2 : Hid (R = (if ek = 1 then decide (kn = 0) && z else if ek = 2 then decide (ei = 0) && decide (pn = 0) && z else if ek = 3 then a else false)) := by
          show _ = _
          rw [HR.out, decide_eq_true (show 0 ≤ ecl ∧ ecl < 16 by omega), decide_eq_true (show 1 ≤ et by omega)]; rfl
        clear HR
        by_cases k1 : ek = 1
        · subst k1
          by_cases g1 : kn = 0
          · have g1b : ((kn : Int) == 0) = true := by rw [beq_iff_eq]; omega
            have HF : Hid (R = z) := by show _ = _; rw [HR2.out, if_pos rfl, decide_eq_true g1]; rfl
            clear HR2 g1
            go_enter Tryz.func28, Tryz.ntmps28
            go_wp2_with fail
            refine (HZ.out _).mono ?_
            rintro e' w2 ⟨rfl, hk2⟩
            go_wp2_with fail
            go_ret
            exact ⟨by rw [HF.out]; rfl, (HK.out _ _).trans hk2⟩
          · have g1b : ((kn : Int) == 0) = false := by rw [beq_eq_false_iff_ne]; omega
            have HF : Hid (R = false) := by show _ = _; rw [HR2.out, if_pos rfl, decide_eq_false g1]; rfl
            clear HR2 g1
            go_enter Tryz.func28, Tryz.ntmps28
            go_wp2_with fail
            go_ret
            exact ⟨by rw [HF.out]; rfl, HK.out _ _⟩
        · by_cases k2 : ek = 2
          · subst k2
            by_cases g1 : ei = 0
            · have g1b : ((ei : Int) == 0) = true := by rw [beq_iff_eq]; omega
              by_cases g2 : pn = 0
              · have g2b : ((pn : Int) == 0) = true := by rw [beq_iff_eq]; omega
                have HF : Hid (R = z) := by show _ = _; rw [HR2.out, if_neg (by decide), if_pos rfl, decide_eq_true g1, decide_eq_true g2]; rfl
                clear HR2 g1 g2
                go_enter Tryz.func28, Tryz.ntmps28
                go_wp2_with fail
                refine (HZ.out _).mono ?_
                rintro e' w2 ⟨rfl, hk2⟩
                go_wp2_with fail
                go_ret
                exact ⟨by rw [HF.out]; rfl, (HK.out _ _).trans hk2⟩
              · have g2b : ((pn : Int) == 0) = false := by rw [beq_eq_false_iff_ne]; omega
                have HF : Hid (R = false) := by show _ = _; rw [HR2.out, if_neg (by decide), if_pos rfl, decide_eq_false g2]; simp
                clear HR2 g1 g2
                go_enter Tryz.func28, Tryz.ntmps28
                go_wp2_with fail
                go_ret
                exact ⟨by rw [HF.out]; rfl, HK.out _ _⟩
            · have g1b : ((ei : Int) == 0) = false := by rw [beq_eq_false_iff_ne]; omega
              have HF : Hid (R = false) := by show _ = _; rw [HR2.out, if_neg (by decide), if_pos rfl, decide_eq_false g1]; rfl
              clear HR2 g1
              go_enter Tryz.func28, Tryz.ntmps28
              go_wp2_with fail
              go_ret
              exact ⟨by rw [HF.out]; rfl, HK.out _ _⟩
          · by_cases k3 : ek = 3
            · subst k3
              have HF : Hid (R = a) := by show _ = _; rw [HR2.out, if_neg (by decide), if_neg (by decide), if_pos rfl]
              clear HR2 k1 k2
              go_enter Tryz.func28, Tryz.ntmps28
              go_wp2_with fail
              refine (HANS.out _ (HK.out _ _)).mono ?_
              rintro e' w2 ⟨rfl, hk2⟩
              go_wp2_with fail
              go_ret
              exact ⟨by rw [HF.out]; rfl, (HK.out _ _).trans hk2⟩
            · have HF : Hid (R = false) := by show _ = _; rw [HR2.out, if_neg k1, if_neg k2, if_neg k3]
              clear HR2
              go_enter Tryz.func28, Tryz.ntmps28
              go_wp2_with fail
              go_ret
              exact ⟨by rw [HF.out]; rfl, HK.out _ _⟩
end Go.Proofs.YtjkljljmjjnneaaGreatDoor
