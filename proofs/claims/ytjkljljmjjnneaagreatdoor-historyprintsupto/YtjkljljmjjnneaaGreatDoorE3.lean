/- The document's side: whether an event may be. -/
import Derived.Test.YtjkljljmjjnneaaGreatDoorW5
import Derived.Test.YtjkljljmjjnneaaGreatDoorN1
namespace Go.Proofs.YtjkljljmjjnneaaGreatDoor
open Go.RowKit Go.Sort Orl
set_option linter.unusedVariables false
set_option linter.unusedSimpArgs false

theorem zero_any (w : World) (x q : Int) (i : Nat) (vo : Option Addr) (vn vc : Nat) (vs : List Ver) (hn : vn = vs.length) (hb : (vn : Int) ≤ 2199023255500) :
    Calls Tryz.prog 49 #[.agg #[.int .i64 x, .int .i64 q, .int .u64 (i : Nat), .slice vo vn vc]] w fun e w' => e = .returned (.bool (zeroB x q i vs)) ∧ Keeps no w w' := by
  unfold zeroB
  rw [← hn]
  clear hn
  have HK : Hid (∀ cs t, Keeps no w (w.alloc (.cells cs t))) := fun cs t => (Keeps.refl _ _).alloc _
  by_cases h1 : x = 0
  · subst h1
    by_cases h2 : q = 0
    · subst h2
      by_cases h3 : i = 0
      · subst h3
        by_cases h4 : vn = 0
        · subst h4
          go_enter Tryz.func49, Tryz.ntmps49
          go_wp2_with fail
          go_ret
          exact ⟨rfl, HK.out _ _⟩
        · have h4' : ¬ (vn : Int) = 0 := by omega
          rw [decide_eq_false h4]
          go_enter Tryz.func49, Tryz.ntmps49
          go_wp2_with fail
          go_ret
          exact ⟨by simp [h4], HK.out _ _⟩
      · have h3' : ¬ (i : Int) = 0 := by omega
        rw [decide_eq_false h3]
        go_enter Tryz.func49, Tryz.ntmps49
        go_wp2_with fail
        go_ret
        exact ⟨by simp, HK.out _ _⟩
    · rw [decide_eq_false h2]
      go_enter Tryz.func49, Tryz.ntmps49
      go_wp2_with fail
      go_ret
      exact ⟨by simp, HK.out _ _⟩
  · rw [decide_eq_false h1]
    go_enter Tryz.func49, Tryz.ntmps49
    go_wp2_with fail
    go_ret
    exact ⟨by simp, HK.out _ _⟩
def ansE2 (e : Ev) : Bool := decide (e.id = 0) && (decide (e.pairs.length = 0) && (decide (e.keys.length = 0) && ansB e.atxn e.ares e.vers e.txn))
set_option maxRecDepth 10000 in
set_option maxHeartbeats 8000000 in
theorem answer_any (w : World) (r : RE) (e : Ev) (he : EvOf w r e) (hz : SzE e) :
    Calls Tryz.prog 50 #[aggE r] w fun E w' => E = .returned (.bool (ansE2 e)) ∧ Keeps no w w' := by
  obtain ⟨rs, hvs⟩ := he.vs
  have HV : Hid (Vers w r.vo r.vc rs e.vers ∧ r.vn = e.vers.length ∧ SzE e) := ⟨hvs, he.vn, hz⟩
  obtain ⟨R, hR⟩ : ∃ R, R = ansE2 e := ⟨_, rfl⟩
  rw [← hR]
  have HR : Hid (R = ansE2 e) := hR
  have HQ : Hid (r.id = e.id ∧ r.pn = e.pairs.length ∧ r.kn = e.keys.length ∧ r.atxn = e.atxn ∧ r.txn = e.txn ∧ r.ares = e.ares) := ⟨he.id, he.pn, he.kn, he.atxn, he.txn, he.ares⟩
  have hpb : (r.pn : Int) ≤ 4398046511000 := by rw [he.pn]; have := hz.pl; omega
  have hkb : (r.kn : Int) ≤ 8796093022000 := by rw [he.kn]; have := hz.kl; omega
  have hvb : (r.vn : Int) ≤ 2199023255500 := by rw [he.vn]; have := hz.vl; omega
  clear he hz hvs hR
  obtain ⟨ek, ecl, et, ei, po, pn, pc, ko, kn, kc, ax, ar, ai, vo, vn, vc⟩ := r
  simp only at HV HQ hpb hkb hvb
  unfold aggE cellsE
  have HK : Hid (∀ a b s t, Keeps no w ((w.alloc (.cells a s)).alloc (.cells b t))) := fun a b s t => ((Keeps.refl _ _).alloc _).alloc _
  by_cases h1 : ei = 0
  · have h1b : ((ei : Int) != 0) = false := by rw [bne_eq_false_iff_eq]; omega
    have G1 : Hid (ei = 0) := h1
    clear h1
    by_cases h2 : pn = 0
    · have h2b : ¬ (pn : Int) > 0 := by omega
      have G2 : Hid (pn = 0) := h2
      clear h2
      by_cases h3 : kn = 0
      · have h3b : ¬ (kn : Int) > 0 := by omega
        have G3 : Hid (kn = 0) := h3
        clear h3
        by_cases h4 : ax = et
        · have h4b : (ax != et) = false := by rw [bne_eq_false_iff_eq]; exact h4
          have G4 : Hid (ax = et) := h4
          clear h4
          by_cases h5 : 1 ≤ ar
          · have h5b : ¬ ar < 1 := by omega
            by_cases h6 : ar ≤ 6
            · have h6b : ¬ ar > 6 := by omega
              obtain ⟨B, hB⟩ : ∃ B, B = w.heap.size := ⟨_, rfl⟩
              have H1 : Hid (∀ W, W = (w.alloc (.cells #[.int .i64 ek, .int .i64 ecl, .int .i64 et, .int .u64 (ei : Nat), .slice po pn pc, .slice ko kn kc, .int .i64 ax, .int .i64 ar, .int .u64 (ai : Nat), .slice vo vn vc] 36)).alloc (.cells #[.int .i64 ax, .int .i64 ar, .int .u64 (ai : Nat), .slice vo vn vc] 34) → W.heap[B]? = some (.cells #[.int .i64 ek, .int .i64 ecl, .int .i64 et, .int .u64 (ei : Nat), .slice po pn pc, .slice ko kn kc, .int .i64 ax, .int .i64 ar, .int .u64 (ai : Nat), .slice vo vn vc] 36 (0, 0)) ∧ W.heap[B + 1]? = some (.cells #[.int .i64 ax, .int .i64 ar, .int .u64 (ai : Nat), .slice vo vn vc] 34 (0, 0)) ∧ Keeps no w W) := by
                rintro W rfl
                refine ⟨by rw [hB]; exact blk_alloc (blk_new w _) _, ?_, HK.out _ _ _ _⟩
                have e' : (w.alloc (.cells #[.int .i64 ek, .int .i64 ecl, .int .i64 et, .int .u64 (ei : Nat), .slice po pn pc, .slice ko kn kc, .int .i64 ax, .int .i64 ar, .int .u64 (ai : Nat), .slice vo vn vc] 36)).heap.size = B + 1 := by rw [hB]; exact Array.size_push _
                rw [← e']; exact blk_new _ _
              have HRV : Hid (R = e.vers.all verB) := by
                show _ = _
                rw [HR.out]; unfold ansE2 ansB
                rw [decide_eq_true (show e.id = 0 from HQ.out.1.symm.trans G1.out), decide_eq_true (show e.pairs.length = 0 from HQ.out.2.1.symm.trans G2.out), decide_eq_true (show e.keys.length = 0 from HQ.out.2.2.1.symm.trans G3.out), decide_eq_true (show e.atxn = e.txn by rw [← HQ.out.2.2.2.1, ← HQ.out.2.2.2.2.1]; exact G4.out), decide_eq_true (show 1 ≤ e.ares by rw [← HQ.out.2.2.2.2.2]; exact h5), decide_eq_true (show e.ares ≤ 6 by rw [← HQ.out.2.2.2.2.2]; exact h6)]
                simp
              clear HR
              go_enter Tryz.func50, Tryz.ntmps50
              go_upto_region 2 with fail
              have h1 := H1.out _ rfl
              generalize (w.alloc (.cells #[.int .i64 ek, .int .i64 ecl, .int .i64 et, .int .u64 (ei : Nat), .slice po pn pc, .slice ko kn kc, .int .i64 ax, .int .i64 ar, .int .u64 (ai : Nat), .slice vo vn vc] 36)).alloc (.cells #[.int .i64 ax, .int .i64 ar, .int .u64 (ai : Nat), .slice vo vn vc] 34) = w1 at h1 ⊢
              have H2 : Hid (w1.heap[B]? = some (.cells #[.int .i64 ek, .int .i64 ecl, .int .i64 et, .int .u64 (ei : Nat), .slice po pn pc, .slice ko kn kc, .int .i64 ax, .int .i64 ar, .int .u64 (ai : Nat), .slice vo vn vc] 36 (0, 0)) ∧ w1.heap[B + 1]? = some (.cells #[.int .i64 ax, .int .i64 ar, .int .u64 (ai : Nat), .slice vo vn vc] 34 (0, 0)) ∧ Keeps no w w1) := h1
              rw [← hB]
              clear H1 hB
              have z2 := cell_of_blk h1.1 2
              have z3 := cell_of_blk h1.1 3
              have z4 := cell_of_blk h1.1 4
              have z5 := cell_of_blk h1.1 5
              have x0 := cell_of_blk h1.2.1 0
              have x1 := cell_of_blk h1.2.1 1
              simp only [List.getElem?_toArray, List.getElem?_cons_succ, List.getElem?_cons_zero] at z2 z3 z4 z5 x0 x1
              clear h1
              go_wp2_with fail
              go_loopw [4] (fun s24 wr => ∃ k : Nat, k ≤ vn ∧ s24 = .int .i64 (k : Nat) ∧ Hid (Keeps no w wr ∧ (e.vers.take k).all verB = true ∧ wr.heap[B + 1]? = some (.cells #[.int .i64 ax, .int .i64 ar, .int .u64 (ai : Nat), .slice vo vn vc] 34 (0, 0)))) (fun s24 _ => vn - (intOf s24).toNat)
              case atStart => exact ⟨0, by omega, rfl, H2.out.2.2, rfl, H2.out.2.1⟩
              case round =>
                rename World => wr
                clear z2 z3 z4 z5 x0 x1 H2
                obtain ⟨k, hkk, rfl, HR⟩ := hrel
                by_cases hlt : k < vn
                · have hlt' : (k : Int) < vn := by omega
                  have hkl : k < e.vers.length := by have := HV.out.2.1; omega
                  have hvk := HV.out.1.keepsN HR.out.1
                  obtain ⟨g, off, e0', c0, c1, c2, c3⟩ := hvk.sl.atV (j := k) (by rw [hvk.len]; exact hkl)
                  have hve := HV.out.1.each k hkl
                  have HAL : Hid ((e.vers.take (k + 1)).all verB = verB (e.vers.getD k v0)) := by
                    show _ = _
                    rw [all_take _ v0 _ _ hkl, HR.out.2.1, Bool.true_and]
                  have hkn : ((e.vers.getD k v0).keys.length : Int) ≤ 8796093022000 := by have := HV.out.2.2.vk _ (getD_mem_lt v0 hkl); omega
                  obtain ⟨r, hr⟩ : ∃ r, r = rs.getD k r0 := ⟨_, rfl⟩
                  rw [← hr] at c0 c1 c2 c3 hve
                  generalize e.vers.getD k v0 = v at HAL hve hkn
                  have x3 := cell_of_blk HR.out.2.2 3
                  simp only [List.getElem?_toArray, List.getElem?_cons_succ, List.getElem?_cons_zero] at x3
                  clear hr hvk hkl
                  obtain ⟨rk, ri, rv, ro, rn, rc⟩ := r
                  obtain ⟨d1, d2, d3, d4, -⟩ := hve
                  simp only at c0 c1 c2 c3 d1 d2 d3 d4
                  subst d1 d2 d3 d4
                  have HN : Hid (∀ cs t, Keeps no w (wr.alloc (.cells cs t)) ∧ (wr.alloc (.cells cs t)).heap[B + 1]? = some (.cells #[.int .i64 ax, .int .i64 ar, .int .u64 (ai : Nat), .slice vo vn vc] 34 (0, 0))) := fun cs t => ⟨HR.out.1.trans ((Keeps.refl _ _).alloc _), blk_alloc HR.out.2.2 _⟩
                  subst e0'
                  by_cases e1 : v.id = 0
                  · have e1' : ((v.id : Nat) : Int) = 0 := by omega
                    by_cases e2 : v.val.size = 0
                    · have hz : v.val.data.toList = [] := List.length_eq_zero_iff.1 (by rw [Array.length_toList]; exact e2)
                      have ht : (v.val.toList == ([] : List UInt8)) = true := by rw [Lib.toList_data, hz]; rfl
                      by_cases e3 : v.keys.length = 0
                      · have HB : Hid ((e.vers.take (k + 1)).all verB = true) := by show _ = _; rw [HAL.out]; unfold verB; simp [e1, e2, e3]
                        clear hz HAL
                        rw [e3] at c3
                        go_wp2_with fail
                        go_roundw
                        case rel => exact ⟨k + 1, by omega, by go_num, (HN.out _ _).1, HB.out, (HN.out _ _).2⟩
                        case measure => first | (simp [intOf]; done) | (simp [intOf]; omega)
                      · have e3' : ((v.keys.length : Nat) : Int) > 0 := by omega
                        have HB : Hid (e.vers.all verB = false) := all_false _ _ (k + 1) (by rw [HAL.out]; unfold verB; simp [e1, e3])
                        clear hz HAL
                        generalize v.keys.length = n3 at c3 e3 e3' hkn
                        go_wp2_with fail
                        go_ret
                        exact ⟨by rw [HRV.out, HB.out]; rfl, (HN.out _ _).1⟩
                    · have ht : (v.val.toList == ([] : List UInt8)) = false := by
                        rw [Lib.toList_data, beq_eq_false_iff_ne]
                        intro e
                        apply e2
                        have := congrArg List.length e
                        rw [Array.length_toList] at this
                        exact this
                      have HB : Hid (e.vers.all verB = false) := all_false _ _ (k + 1) (by rw [HAL.out]; unfold verB; simp [e1, e2])
                      clear HAL
                      go_wp2_with fail
                      go_ret
                      exact ⟨by rw [HRV.out, HB.out]; rfl, (HN.out _ _).1⟩
                  · have e1' : ¬ ((v.id : Nat) : Int) = 0 := by omega
                    have HB : Hid ((e.vers.take (k + 1)).all verB = true) := by show _ = _; rw [HAL.out]; unfold verB; simp [e1]
                    clear HAL
                    go_wp2_with fail
                    go_roundw
                    case rel => exact ⟨k + 1, by omega, by go_num, (HN.out _ _).1, HB.out, (HN.out _ _).2⟩
                    case measure => first | (simp [intOf]; done) | (simp [intOf]; omega)
                · have hlt' : ¬ (k : Int) < vn := by omega
                  have x3 := cell_of_blk HR.out.2.2 3
                  simp only [List.getElem?_toArray, List.getElem?_cons_succ, List.getElem?_cons_zero] at x3
                  have HE : Hid (e.vers.all verB = true) := by
                    have := HR.out.2.1
                    rw [List.take_of_length_le (by have := HV.out.2.1; omega)] at this
                    exact this
                  go_wp2_with fail
                  go_ret
                  exact ⟨by rw [HRV.out, HE.out]; rfl, HR.out.1⟩
            · have h6b : ar > 6 := by omega
              have HF : Hid (R = false) := by show _ = _; rw [HR.out]; unfold ansE2 ansB; rw [decide_eq_false (show ¬ e.ares ≤ 6 by rw [← HQ.out.2.2.2.2.2]; exact h6)]; simp
              clear HR
              go_enter Tryz.func50, Tryz.ntmps50
              go_wp2_with fail
              go_ret
              exact ⟨by rw [HF.out]; rfl, HK.out _ _ _ _⟩
          · have h5b : ar < 1 := by omega
            have HF : Hid (R = false) := by show _ = _; rw [HR.out]; unfold ansE2 ansB; rw [decide_eq_false (show ¬ 1 ≤ e.ares by rw [← HQ.out.2.2.2.2.2]; exact h5)]; simp
            clear HR
            go_enter Tryz.func50, Tryz.ntmps50
            go_wp2_with fail
            go_ret
            exact ⟨by rw [HF.out]; rfl, HK.out _ _ _ _⟩
        · have h4b : (ax != et) = true := by rw [bne_iff_ne]; exact h4
          have HF : Hid (R = false) := by show _ = _; rw [HR.out]; unfold ansE2 ansB; rw [decide_eq_false (show ¬ e.atxn = e.txn by rw [← HQ.out.2.2.2.1, ← HQ.out.2.2.2.2.1]; exact h4)]; simp
          clear HR
          go_enter Tryz.func50, Tryz.ntmps50
          go_wp2_with fail
          go_ret
          exact ⟨by rw [HF.out]; rfl, HK.out _ _ _ _⟩
      · have h3b : (kn : Int) > 0 := by omega
        have HF : Hid (R = false) := by show _ = _; rw [HR.out]; unfold ansE2 ansB; rw [decide_eq_false (show ¬ e.keys.length = 0 by rw [← HQ.out.2.2.1]; exact h3)]; simp
        clear HR
        go_enter Tryz.func50, Tryz.ntmps50
        go_wp2_with fail
        go_ret
        exact ⟨by rw [HF.out]; rfl, HK.out _ _ _ _⟩
    · have h2b : (pn : Int) > 0 := by omega
      have HF : Hid (R = false) := by show _ = _; rw [HR.out]; unfold ansE2 ansB; rw [decide_eq_false (show ¬ e.pairs.length = 0 by rw [← HQ.out.2.1]; exact h2)]; simp
      clear HR
      go_enter Tryz.func50, Tryz.ntmps50
      go_wp2_with fail
      go_ret
      exact ⟨by rw [HF.out]; rfl, HK.out _ _ _ _⟩
  · have h1b : ((ei : Int) != 0) = true := by rw [bne_iff_ne]; omega
    have HF : Hid (R = false) := by show _ = _; rw [HR.out]; unfold ansE2 ansB; rw [decide_eq_false (show ¬ e.id = 0 by rw [← HQ.out.1]; exact h1)]; simp
    clear HR
    go_enter Tryz.func50, Tryz.ntmps50
    go_wp2_with fail
    go_ret
    exact ⟨by rw [HF.out]; rfl, HK.out _ _ _ _⟩
end Go.Proofs.YtjkljljmjjnneaaGreatDoor
