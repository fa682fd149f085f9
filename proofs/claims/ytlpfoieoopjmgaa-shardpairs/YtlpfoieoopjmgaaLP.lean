import Derived.Test.YtlpfoieoopjmgaaPS
namespace Go.Proofs.Ytlpfoieoopjmgaa
open Go.RowKit
set_option linter.unusedVariables false
set_option linter.unusedSimpArgs false

set_option maxHeartbeats 4000000 in
set_option maxRecDepth 10000 in
theorem shardPairs_any (w : World) (a : Option Addr) (n c : Nat) (ps : List Pr) (z : Int) (hn : n = ps.length) (hfit : (ps.length : Int) * 32 ≤ 140737488351232) (hsz : ∀ x ∈ ps, x.1.size ≤ maxLen ∧ x.2.size ≤ maxLen) (hs : Sl PE w a c ps) (hz : -9223372036854775808 ≤ z ∧ z ≤ 9223372036854775807) :
    Calls Try.prog 4 #[.slice a n c, .int .i64 z] w fun e w' => e = .returned (.bool true) ∧ Keeps no w w' := by
  have HF : Hid (n = ps.length ∧ (ps.length : Int) * 32 ≤ 140737488351232 ∧ (∀ x ∈ ps, x.1.size ≤ maxLen ∧ x.2.size ≤ maxLen) ∧ Sl PE w a c ps) := ⟨hn, hfit, hsz, hs⟩
  have hA : (n : Int) ≤ 4398046510976 := by omega
  have HFK : Hid ((kys ps).length = n ∧ ((kys ps).length : Int) * 16 ≤ 140737488351232 ∧ ∀ x ∈ kys ps, x.size ≤ maxLen) := ⟨by rw [kys_length]; exact hn.symm, by rw [kys_length]; omega, fun x hx => by
    unfold kys at hx
    rw [List.mem_map] at hx
    obtain ⟨q, hq, rfl⟩ := hx
    exact (hsz q hq).1⟩
  clear hn hfit hsz hs hz
  go_enter Try.func4, Try.ntmps4
  go_wp2_with fail
  go_loopw [5, 6] (fun s5 i wr => ∃ (k m : Nat) (o : Option Addr) (cc : Nat), k ≤ n ∧ i = .int .i64 k ∧ s5 = .slice o m cc ∧ Hid (m = k ∧ Own TE wr o cc (kys (ps.take k)) ∧ New w o ∧ Keeps no w wr)) (fun _ i _ => n - (intOf i).toNat)
  case atStart => exact ⟨0, 0, none, 0, by omega, rfl, rfl, ⟨rfl, own_nil _, new_none _, Keeps.refl _ _⟩⟩
  case round =>
    obtain ⟨k, m, o, cc, hk, rfl, rfl, HI⟩ := hrel
    have hmk : (m : Int) = k := by rw [HI.out.1]
    by_cases hlt : k < n
    · have hka : k < ps.length := by have := HF.out.1; omega
      have hs' := HF.out.2.2.2.keepsN HI.out.2.2.2
      obtain ⟨b1, off1, rfl, d1, d2⟩ := hs'.atP hka
      obtain ⟨x, hx⟩ : ∃ x, x = ps.getD k p0 := ⟨_, rfl⟩
      rw [← hx] at d1 d2
      have HT : Hid (kys (ps.take (k + 1)) = kys (ps.take k) ++ [x.1] ∧ k = (kys (ps.take k)).length) := ⟨by rw [take_succ_getD ps k p0 hka, ← hx]; simp [kys, fstP], by rw [kys_length, List.length_take]; omega⟩
      obtain ⟨x1, x2⟩ := x
      simp only at d1 d2 HT
      have HB : Hid (((kys (ps.take k)).length + [x1].length) * TE.nb ≤ 140737488355328 ∧ (kys (ps.take k)).length + [x1].length ≤ 140737488355328) := by
        have := HT.out.2
        exact ⟨by simp [TE]; omega, by simp; omega⟩
      clear hx hka hs'
      go_wp2_with (at_builtin; go_loud (refine wpList_app okT rfl _ _ rfl _ _ _ (kys (ps.take k)) rfl (HI.out.1.trans HT.out.2) (HI.out.2.1.keepsN ((Keeps.refl _ _).alloc _)) _ _ _ [x1] rfl rfl (fun h => by cases h) (lit_one (E := TE) _ x1 _ rfl).row HB.out.1 HB.out.2 ?_); intro o5 c5 w5 ho5 hap5)
      go_roundw
      case rel =>
        obtain ⟨g1, g2, g3, g4⟩ := HI.out
        have h5 := hap5.new (w0 := w) g3 (g4.alloc _)
        exact ⟨k + 1, m + 1, o5, c5, by omega, by go_num, rfl, ⟨by rw [g1], by rw [HT.out.1]; exact ho5, h5.1, h5.2⟩⟩
      case measure => simp [intOf] <;> omega
    · have he : ps.take k = ps := List.take_of_length_le (by have := HF.out.1; omega)
      have hmn : m = n := by have := HI.out.1; omega
      have HJ : Hid (Own TE wr o cc (kys ps) ∧ Keeps no w wr) := by have := HI.out; rw [he] at this; exact ⟨this.2.1, this.2.2.2⟩
      clear HI he hmk
      subst hmn
      rename World => wk
      go_wp2_with fail
      clear hlt hk
      by_cases h : 1 ≤ z ∧ z ≤ 64
      · obtain ⟨P, rfl⟩ : ∃ P : Nat, z = P := ⟨z.toNat, by omega⟩
        have h1 : 0 < P := by omega
        have h2 : P ≤ 64 := by omega
        have hP1 : ¬ (P : Int) < 1 := by omega
        clear h
        refine (groupT_yes _ o m cc (kys ps) P HFK.out.1.symm HFK.out.2.1 HFK.out.2.2 HJ.out.1.sl h1 h2).mono ?_
        rintro e w1 ⟨oa, ma, ca, ga, rfl, H1⟩
        have HK1 : Hid (Keeps no w w1) := HJ.out.2.trans H1.out.2.kp
        go_wp2_with fail
        refine (groupP_yes _ a m c ps P HF.out.1 HF.out.2.1 HF.out.2.2.1 (HF.out.2.2.2.keepsN HK1.out) h1 h2).mono ?_
        rintro e w2 ⟨ob, mb, cb, gb, rfl, H2⟩
        have hmb : mb ≤ 64 := by have := H2.out.1; have := H2.out.2.len; omega
        have hma : ma = mb := by rw [H1.out.1, H2.out.1, (kys_sides H1.out.2 H2.out.2).1]
        subst ma
        go_wp2_with fail
        refine (known_any _).mono ?_
        rintro e w3 ⟨rfl, hk3⟩
        obtain ⟨w4, hr4, ho4, hk4⟩ := makeI w3 65 (by omega)
        have HT : Hid (Told TE GE idT wk P (kys ps) oa ca ga w4 ∧ PSt w P ps ob cb gb w3.heap.size (List.replicate 65 0) w4 ∧ mb = gb.length ∧ Keeps no w w4) := ⟨H1.out.2.keepsN (H2.out.2.kp.trans (hk3.trans hk4)), ⟨(H2.out.2.from HK1.out).keepsN (hk3.trans hk4), ho4, (HK1.out.trans (H2.out.2.kp.trans hk3)).size, by simp⟩, H2.out.1, HK1.out.trans (H2.out.2.kp.trans (hk3.trans hk4))⟩
        obtain ⟨V0, hV0⟩ : ∃ V0 : List Nat, V0 = List.replicate 65 0 := ⟨_, rfl⟩
        rw [← hV0] at HT
        have HV0 : Hid (∀ p, V0.getD p 0 = 0) := fun p => by
          rw [hV0, List.getD_eq_getElem?_getD, List.getElem?_replicate]
          split <;> rfl
        clear hV0
        have HS : Hid (ga.length = gb.length ∧ ∀ j, (ga.getD j gs0).n = (gb.getD j gs0).n) := kys_sides H1.out.2 H2.out.2
        clear H1 H2 HK1 hk3 ho4 hk4
        have hr4' : (Instr.makeSlice 31 (.int .i64 65) (.int .i64 65)).run Try.prog w3 = .ok (.slice (some ⟨w3.heap.size, 0, none⟩) 65 65) w4 := hr4
        clear hr4
        generalize w3.heap.size = bv at *
        go_wp2_with fail
        go_loopw [12] (fun i wr => ∃ (k : Nat), k ≤ mb ∧ i = .int .i64 k ∧ Hid (Keeps no w4 wr)) (fun i _ => mb - (intOf i).toNat)
        case atStart => exact ⟨0, by omega, rfl, Keeps.refl _ _⟩
        case round =>
          obtain ⟨k, hk, rfl, HK⟩ := hrel
          by_cases hlt : k < mb
          · obtain ⟨b, N, M, oi, ci, rfl, d1, d2, hNP, HP⟩ := (HT.out.1.keepsN HK.out).part okG rfl rfl k (by rw [HS.out.1, ← HT.out.2.2.1]; exact hlt)
            obtain ⟨b2, N2, M2, oi2, ci2, rfl, d3, d4, hNP2, HP2⟩ := (HT.out.2.1.told.keepsN HK.out).part okH rfl rfl k (by rw [← HT.out.2.2.1]; exact hlt)
            have hNN : N2 = N := by rw [HP.out.1, HP2.out.1, HS.out.2 k]
            subst N2
            have hMM : M2 = M := by rw [HP.out.2.2.2.1, HP2.out.2.2.2.1, ownOf_kys, kys_length]
            subst M2
            have hN0 : ¬ (N : Int) < 0 := by omega
            have hN63 : ¬ 63 < (N : Int) := by omega
            go_wp2_with fail
            go_quiet (fail)
            go_wp2_with fail
            go_roundw
            case rel => exact ⟨k + 1, by omega, by go_num, HK.out.drewN _⟩
            case measure => simp [intOf] <;> omega
          · have HT2 : Hid (PSt w P ps ob cb gb bv V0 wr ∧ mb = gb.length ∧ Keeps no w wr) := ⟨HT.out.2.1.keepsN HK.out, HT.out.2.2.1, HT.out.2.2.2.trans HK.out⟩
            clear HT HS HK
            go_wp2_with fail
            go_loopw [13] (fun i wr => ∃ (k : Nat) (V : List Nat), k ≤ m ∧ i = .int .i64 k ∧ Hid (PSt w P ps ob cb gb bv V wr ∧ Keeps no w wr ∧ ∀ p, p < P → V.getD p 0 = (ownOf P fstP (ps.take k) p).length)) (fun i _ => m - (intOf i).toNat)
            case atStart => exact ⟨0, V0, by omega, rfl, ⟨HT2.out.1, HT2.out.2.2, fun p hp => by rw [HV0.out p]; rfl⟩⟩
            case round =>
              clear hlt hk
              have HM : Hid (mb = gb.length) := HT2.out.2.1
              clear HT2 HV0
              obtain ⟨k, V, hk, rfl, HI⟩ := hrel
              rename World => wz
              by_cases hlt : k < m
              · have hka : k < ps.length := by have := HF.out.1; omega
                have hs' := HF.out.2.2.2.keepsN HI.out.2.1
                have hat := ownOf_at (key := fstP) P ps k p0 hka
                obtain ⟨b1, off1, rfl, d1, d2⟩ := hs'.atP hka
                obtain ⟨x, hx⟩ : ∃ x, x = ps.getD k p0 := ⟨_, rfl⟩
                have hxs : x.1.size ≤ maxLen := (HF.out.2.2.1 x (by rw [hx]; exact mem_getD _ _ _ hka)).1
                rw [← hx] at d1 d2 hat
                have HX : Hid (ps.take (k + 1) = ps.take k ++ [x]) := by rw [take_succ_getD ps k p0 hka, ← hx]; exact rfl
                obtain ⟨x1, x2⟩ := x
                simp only at d1 d2 hxs
                obtain ⟨p, hp⟩ : ∃ p, p = pl P x1 := ⟨_, rfl⟩
                have hpP : p < P := by rw [hp]; exact pl_lt x1 h1
                have HP : Hid (p = pl P x1) := hp
                rw [show pl P (fstP (x1, x2)) = p from hp.symm] at hat
                obtain ⟨j0, hj0, hjn⟩ := HI.out.1.told.has p hpP (by rw [hat]; simp)
                obtain ⟨q, hq⟩ : ∃ q, q = V.getD p 0 := ⟨_, rfl⟩
                have hq2 : q = (ownOf P fstP (ps.take k) p).length := by rw [hq]; exact HI.out.2.2 p hpP
                have HAT : Hid ((ownOf P fstP ps p).getD q p0 = (x1, x2) ∧ q < (ownOf P fstP ps p).length ∧ (gb.getD j0 gs0).n = p ∧ q = (ownOf P fstP (ps.take k) p).length ∧ q = V.getD p 0) := ⟨by rw [hat, getD_append, if_neg (by omega), hq2, Nat.sub_self]; rfl, by rw [hat, List.length_append, List.length_cons, ← hq2]; omega, hjn, hq2, hq⟩
                have hjm : j0 < mb := by rw [HM.out]; exact hj0
                have hp0 : ¬ (p : Int) < 0 := by omega
                have hp63 : ¬ 63 < (p : Int) := by omega
                have hqk : (q : Int) ≤ 4398046510976 := by
                  have h3 := ownOf_length P fstP (ps.take k) p
                  rw [List.length_take] at h3
                  omega
                clear hx hka hp hs' hat hj0 hjn hq hq2
                go_wp2_with fail
                refine (of_yes x1 P h1 h2 _ hxs).mono ?_
                rintro e w' ⟨rfl, hw'⟩
                subst w'
                rw [← HP.out]
                go_wp2_with fail
                go_loopw [16, 17] (fun s16 i wr => ∃ (t : Nat), t ≤ mb ∧ i = .int .i64 t ∧ s16 = .bool (decide (j0 < t)) ∧ Hid (Keeps no wz wr)) (fun _ i _ => mb - (intOf i).toNat)
                case atStart => exact ⟨0, by omega, rfl, rfl, Keeps.refl _ _⟩
                case round =>
                  obtain ⟨t, ht, rfl, rfl, HK⟩ := hrel
                  have hst := HI.out.1.keepsN HK.out
                  have f1 := (hst.set p 0 (by omega)).1
                  rw [← HAT.out.2.2.2.2] at f1
                  by_cases htm : t < mb
                  · obtain ⟨b2, N, M, oi, ci, rfl, d3, d4, hNP, HQ⟩ := hst.told.part okH rfl rfl t (by rw [← HM.out]; exact htm)
                    have hMI : (M : Int) ≤ 4398046510976 := by
                      have := HQ.out.2.2.2.1
                      have h3 := ownOf_length P fstP ps N
                      have := HF.out.1
                      omega
                    by_cases htj : t = j0
                    · subst t
                      have hNp : N = p := by rw [HQ.out.1, HAT.out.2.2.1]
                      subst N
                      have hqM : (q : Int) < M := by have := HQ.out.2.2.2.1; have := HAT.out.2.1; omega
                      obtain ⟨b4, off4, e4, d5, d6⟩ := HQ.out.2.2.2.2.2.2.sl.atP (j := q) HAT.out.2.1
                      have hoff : off4 = 0 := by
                        rcases HQ.out.2.2.2.2.2.2.shape with ⟨e, _⟩ | ⟨g, cur, e, _⟩
                        · rw [e] at e4; cases e4
                        · rw [e] at e4; cases e4; rfl
                      subst hoff e4
                      rw [Nat.zero_add, HAT.out.1] at d5 d6
                      have g1 := HK.out.cellN d1
                      have g2 := HK.out.cellN d2
                      simp only at d5 d6
                      clear hst
                      go_wp2_with fail
                      go_quiet (fail)
                      go_wp2_with fail
                      obtain ⟨wv, hwv⟩ : ∃ wv, wv = wr.drewN nq := ⟨_, rfl⟩
                      have kv : Keeps no wr wv := by rw [hwv]; exact (Keeps.refl _ _).drewN _
                      rw [← hwv]
                      clear hwv
                      have i1 := kv.cellN g1
                      have i2 := kv.cellN g2
                      have i3 := kv.cellN d3
                      have i4 := kv.cellN d4
                      have i5 := kv.cellN d5
                      have i6 := kv.cellN d6
                      have i7 := kv.cellN f1
                      have HKV : Hid (Keeps no wz wv) := HK.out.trans kv
                      have hq8 := eql38 x1 x2
                      clear g1 g2 d3 d4 d5 d6 f1 kv HK
                      go_quiet (fail)
                      go_wp2_with fail
                      go_roundw
                      case rel => exact ⟨j0 + 1, by omega, by go_num, by simp, HKV.out.drewN _⟩
                      case measure => simp [intOf] <;> omega
                    · have hNp : ¬ (N : Int) = (p : Int) := by
                        have h3 := HQ.out.1
                        have h4 := HAT.out.2.2.1
                        intro e
                        have e' : N = p := by omega
                        rcases Nat.lt_or_gt_of_ne htj with h5 | h5
                        · have := HI.out.1.told.rise t j0 h5 (by rw [← HM.out]; exact hjm); omega
                        · have := HI.out.1.told.rise j0 t h5 (by rw [← HM.out]; exact htm); omega
                      have hd : decide (j0 < t) = decide (j0 < t + 1) := by
                        rcases Nat.lt_or_gt_of_ne htj with h5 | h5
                        · simp [show ¬ j0 < t by omega, show ¬ j0 < t + 1 by omega]
                        · simp [show j0 < t by omega, show j0 < t + 1 by omega]
                      obtain ⟨B, hB⟩ : ∃ B, B = decide (j0 < t) := ⟨_, rfl⟩
                      rw [← hB]
                      have HB : Hid (B = decide (j0 < t + 1)) := hB.trans hd
                      clear hB hd hst
                      go_wp2_with fail
                      go_quiet (fail)
                      go_wp2_with fail
                      go_roundw
                      case rel => exact ⟨t + 1, by omega, by go_num, by rw [HB.out], HK.out.drewN _⟩
                      case measure => simp [intOf] <;> omega
                  · have hd : decide (j0 < t) = true := by simp; omega
                    rw [hd]
                    obtain ⟨f3, f4, hst2⟩ := hst.set p (q + 1) (by omega)
                    have HST : Hid (PSt w P ps ob cb gb bv (V.set p (q + 1)) (wr.setCell ⟨bv, p, none⟩ (.int .i64 ((q + 1 : Nat) : Int)))) := hst2
                    have HKK : Hid (Keeps no w (wr.setCell ⟨bv, p, none⟩ (.int .i64 ((q + 1 : Nat) : Int)))) := (HI.out.2.1.trans HK.out).setCell (.inr HI.out.1.nV) _
                    have HL : Hid (V.length = 65) := HI.out.1.lV
                    clear hst hst2 f3 hd
                    go_wp2_with fail
                    go_roundw
                    case rel =>
                      refine ⟨k + 1, V.set p (q + 1), by omega, by go_num, ⟨HST.out, HKK.out, fun p' hp' => ?_⟩⟩
                      rw [HX.out, ownOf_snoc, getD_set _ _ _ _ _ (by rw [HL.out]; omega), show pl P (fstP (x1, x2)) = p from HP.out.symm]
                      by_cases e : p' = p
                      · rw [if_pos e, if_pos e, List.length_append, e, HAT.out.2.2.2.1]; rfl
                      · rw [if_neg e, if_neg e]; exact HI.out.2.2 p' hp'
                    case measure => simp [intOf] <;> omega
              · go_wp2_with fail
                go_ret
                exact ⟨rfl, HI.out.2.1⟩
      · have H : Hid (¬ (1 ≤ z ∧ z ≤ 64)) := h
        refine (groupT_no _ o m cc z H.out).mono ?_
        rintro e w' ⟨rfl, hw'⟩
        subst w'
        go_wp2_with fail
        refine (groupP_no _ a m c z H.out).mono ?_
        rintro e w' ⟨rfl, hw'⟩
        subst w'
        go_wp2_with fail
        refine (known_any _).mono ?_
        rintro e w3 ⟨rfl, hk3⟩
        obtain ⟨w4, hr4, ho4, hk4⟩ := makeI w3 65 (by omega)
        have hr4' : (Instr.makeSlice 31 (.int .i64 65) (.int .i64 65)).run Try.prog w3 = .ok (.slice (some ⟨w3.heap.size, 0, none⟩) 65 65) w4 := hr4
        clear hr4
        have HK : Hid (Keeps no w w4) := HJ.out.2.trans (hk3.trans hk4)
        clear hk3 hk4 ho4
        by_cases hz1 : z < 1
        · clear h
          go_wp2_with fail
          refine wp_loop_rounds 1 ?_
          rw [rounds_succ]
          go_wp2_with fail
          refine wp_loop_rounds 1 ?_
          rw [rounds_succ]
          by_cases hm0 : 0 < m
          · go_wp2_with fail
            go_ret
            exact ⟨rfl, HK.out⟩
          · go_wp2_with fail
            go_ret
            exact ⟨rfl, HK.out⟩
        · have hz2 : 64 < z := by omega
          clear h
          go_wp2_with fail
          refine wp_loop_rounds 1 ?_
          rw [rounds_succ]
          go_wp2_with fail
          refine wp_loop_rounds 1 ?_
          rw [rounds_succ]
          by_cases hm0 : 0 < m
          · go_wp2_with fail
            go_ret
            exact ⟨rfl, HK.out⟩
          · go_wp2_with fail
            go_ret
            exact ⟨rfl, HK.out⟩
end Go.Proofs.Ytlpfoieoopjmgaa
