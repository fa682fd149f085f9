import Derived.Test.YtlpfoieoopjmgaaDS
namespace Go.Proofs.Ytlpfoieoopjmgaa
open Go.RowKit
set_option linter.unusedVariables false
set_option linter.unusedSimpArgs false

set_option maxHeartbeats 4000000 in
set_option maxRecDepth 10000 in
theorem shardDeals_any (w : World) (a : Option Addr) (n c : Nat) (xs : List Tx) (z : Int) (hn : n = xs.length) (hfit : (xs.length : Int) * 16 ≤ 140737488351232) (hsz : ∀ x ∈ xs, x.size ≤ maxLen) (hs : Sl TE w a c xs) (hz : -9223372036854775808 ≤ z ∧ z ≤ 9223372036854775807) :
    Calls Try.prog 3 #[.slice a n c, .int .i64 z] w fun e w' => e = .returned (.bool true) ∧ Keeps no w w' := by
  have HF : Hid (n = xs.length ∧ (xs.length : Int) * 16 ≤ 140737488351232 ∧ (∀ x ∈ xs, x.size ≤ maxLen) ∧ Sl TE w a c xs) := ⟨hn, hfit, hsz, hs⟩
  have hA : (n : Int) ≤ 8796093021952 := by omega
  have HZ : Hid (-9223372036854775808 ≤ z ∧ z ≤ 9223372036854775807) := hz
  obtain ⟨r, hr⟩ : ∃ r, r = restN z := ⟨_, rfl⟩
  have hr64 : r < 64 := by rw [hr]; exact restN_lt z
  have HR : Hid (r = restN z) := hr
  obtain ⟨P, hP⟩ : ∃ P, P = r + 1 := ⟨_, rfl⟩
  have hPI : (1 + (r : Int)) = (P : Int) := by omega
  have h1 : 0 < P := by omega
  have h2 : P ≤ 64 := by omega
  clear hn hfit hsz hs hz hr hP
  go_enter Try.func3, Try.ntmps3
  go_wp2_with fail
  refine (rest_any z _ HZ.out).mono ?_
  rintro e w' ⟨rfl, hw'⟩
  subst w'
  rw [← HR.out]
  go_wp2_with fail
  clear hPI hr64
  refine (groupT_yes _ a n c xs P HF.out.1 HF.out.2.1 HF.out.2.2.1 HF.out.2.2.2 h1 h2).mono ?_
  rintro e w1 ⟨o, m, cg, gs, rfl, H1⟩
  have hm : m ≤ 64 := by have := H1.out.1; have := H1.out.2.len; omega
  go_wp2_with fail
  refine (known_any _).mono ?_
  rintro e w2 ⟨rfl, hk2⟩
  have HT : Hid (Told TE GE idT w P xs o cg gs w2 ∧ m = gs.length) := ⟨H1.out.2.keepsN hk2, H1.out.1⟩
  clear H1 hk2
  go_wp2_with fail
  go_loop [7, 8] (fun l i => ∃ (k : Nat) (t : Int), k ≤ m ∧ i = .int .i64 k ∧ l = .int .i64 t ∧ Hid (-1 ≤ t ∧ t ≤ 64 ∧ ∀ j, k ≤ j → j < m → t < (gs.getD j gs0).n)) (fun _ i => m - (intOf i).toNat)
  case atStart => exact ⟨0, -1, by omega, rfl, rfl, ⟨by omega, by omega, fun j _ _ => by omega⟩⟩
  case round =>
    obtain ⟨k, t, hk, rfl, rfl, HI⟩ := hrel
    by_cases hlt : k < m
    · obtain ⟨b, N, M, oi, ci, rfl, d1, d2, hNP, HP⟩ := HT.out.1.part okG rfl rfl k (by rw [← HT.out.2]; exact hlt)
      have htN : t < (N : Int) := by rw [HP.out.1]; exact HI.out.2.2 k (Nat.le_refl _) hlt
      have hM0 : ¬ (M : Int) = 0 := by
        have := HP.out.2.2.2.1
        have h3 := HP.out.2.2.2.2.1
        intro e
        exact h3 (List.length_eq_zero_iff.1 (by omega))
      have hMI : (M : Int) ≤ 8796093021952 := by
        have := HP.out.2.2.2.1
        have h3 := ownOf_length P idT xs N
        have := HF.out.1
        omega
      have hle : ¬ (N : Int) ≤ t := by omega
      have hge : ¬ (P : Int) ≤ N := by omega
      go_wp2_with fail
      go_round
      case rel =>
        refine ⟨k + 1, N, by omega, by go_num, rfl, ⟨by omega, by omega, fun j hj1 hj2 => ?_⟩⟩
        rw [HP.out.1]
        have := HT.out.1.rise k j (by omega) (by rw [← HT.out.2]; exact hj2)
        omega
      case measure => simp [intOf] <;> omega
    · clear HI
      obtain ⟨w3, hr3, ho3, hk3⟩ := makeI w2 P (by omega)
      obtain ⟨w4, hr4, ho4, hk4⟩ := makeI w3 P (by omega)
      have hne : w2.heap.size < w3.heap.size := ho3.lt _ ⟨_, rfl, rfl⟩
      have HD : Hid (DS w P xs o cg gs w2.heap.size w3.heap.size (List.replicate P 0) (List.replicate P 0) w4) := ⟨HT.out.1.keepsN (hk3.trans hk4), ho3.keepsN hk4, ho4, Nat.ne_of_lt hne, HT.out.1.kp.size, Nat.le_trans HT.out.1.kp.size hk3.size, by simp, by simp⟩
      have HM : Hid (m = gs.length) := HT.out.2
      clear ho3 hk3 ho4 hk4 hne HT
      generalize w2.heap.size = ba at *
      generalize w3.heap.size = bw at *
      go_wp2_with fail
      go_loopw [11] (fun i wr => ∃ (k : Nat) (W : List Nat), k ≤ m ∧ i = .int .i64 k ∧ Hid (DS w P xs o cg gs ba bw (List.replicate P 0) W wr ∧ ∀ j, j < k → W.getD (gs.getD j gs0).n 0 = j + 1)) (fun i _ => m - (intOf i).toNat)
      case atStart => exact ⟨0, _, by omega, rfl, ⟨HD.out, fun j hj => by omega⟩⟩
      case round =>
        clear hlt hk
        obtain ⟨k, W, hk, rfl, HI⟩ := hrel
        by_cases hlt : k < m
        · obtain ⟨b, N, M, oi, ci, rfl, d1, d2, hNP, HP⟩ := HI.out.1.told.part okG rfl rfl k (by rw [← HM.out]; exact hlt)
          obtain ⟨e1, e2, hD2⟩ := HI.out.1.setW N (k + 1) hNP
          have HD2 : Hid (DS w P xs (some ⟨b, 0, none⟩) cg gs ba bw (List.replicate P 0) (W.set N (k + 1)) (wr.setCell ⟨bw, N, none⟩ (.int .i64 ((k + 1 : Nat) : Int)))) := hD2
          clear hD2
          go_wp2_with fail
          go_roundw
          case rel =>
            refine ⟨k + 1, _, by omega, by go_num, ⟨HD2.out, fun j hj => ?_⟩⟩
            rw [getD_set _ _ _ _ _ (by rw [HI.out.1.lW]; exact hNP)]
            by_cases e : j = k
            · subst e; rw [if_pos HP.out.1.symm]
            · have := HI.out.1.told.rise j k (by omega) (by rw [← HM.out]; exact hlt)
              rw [if_neg (by rw [HP.out.1]; omega)]
              exact HI.out.2 j (by omega)
          case measure => simp [intOf] <;> omega
        · have HW : Hid (∀ j, j < m → W.getD (gs.getD j gs0).n 0 = j + 1) := fun j hj => HI.out.2 j (by omega)
          have HD3 : Hid (DS w P xs o cg gs ba bw (List.replicate P 0) W wr) := HI.out.1
          clear HI HD
          go_wp2_with fail
          go_loopw [12] (fun i wr => ∃ (k : Nat) (A : List Nat), k ≤ n ∧ i = .int .i64 k ∧ Hid (DS w P xs o cg gs ba bw A W wr ∧ ∀ p, p < P → A.getD p 0 = (ownOf P idT (xs.take k) p).length)) (fun i _ => n - (intOf i).toNat)
          case atStart => exact ⟨0, _, by omega, rfl, ⟨HD3.out, fun p hp => by simp [ownOf, hp]⟩⟩
          case round =>
            clear hlt hk HD3
            obtain ⟨k, A, hk, rfl, HI⟩ := hrel
            by_cases hlt : k < n
            · have hka : k < xs.length := by have := HF.out.1; omega
              have hs' := HF.out.2.2.2.keepsN HI.out.1.told.kp
              obtain ⟨b1, off1, rfl, d1⟩ := hs'.at hka
              have hat := ownOf_at (key := idT) P xs k e0 hka
              obtain ⟨x, hx⟩ : ∃ x, x = xs.getD k e0 := ⟨_, rfl⟩
              have hxs : x.size ≤ maxLen := HF.out.2.2.1 x (by rw [hx]; exact mem_getD _ _ _ hka)
              rw [← hx] at d1 hat
              have HX : Hid (xs.take (k + 1) = xs.take k ++ [x]) := by rw [take_succ_getD xs k e0 hka, ← hx]; exact rfl
              obtain ⟨p, hp⟩ : ∃ p, p = pl P x := ⟨_, rfl⟩
              have hpP : p < P := by rw [hp]; exact pl_lt x h1
              have HP : Hid (p = pl P x) := hp
              rw [show pl P (idT x) = p from hp.symm] at hat
              obtain ⟨j, hj, hjn⟩ := HI.out.1.told.has p hpP (by rw [hat]; simp)
              obtain ⟨b, N, M, oi, ci, rfl, d2, d3, hNP, HQ⟩ := HI.out.1.told.part okG rfl rfl j hj
              have hNp : N = p := by rw [HQ.out.1, hjn]
              subst hNp
              have hWj : W.getD N 0 = j + 1 := by have := HW.out j (by rw [HM.out]; exact hj); rwa [hjn] at this
              obtain ⟨q, hq⟩ : ∃ q, q = A.getD N 0 := ⟨_, rfl⟩
              have hq2 : q = (ownOf P idT (xs.take k) N).length := by rw [hq]; exact HI.out.2 N hpP
              have hMq : q < M := by
                rw [HQ.out.2.2.2.1, hat, List.length_append, List.length_cons, ← hq2]; omega
              obtain ⟨b4, off4, e4, d4⟩ := HQ.out.2.2.2.2.2.2.sl.at (j := q) (by rw [← HQ.out.2.2.2.1]; exact hMq)
              have hoff : off4 = 0 := by
                rcases HQ.out.2.2.2.2.2.2.shape with ⟨e, _⟩ | ⟨g, cur, e, _⟩
                · rw [e] at e4; cases e4
                · rw [e] at e4; cases e4; rfl
              subst hoff e4
              rw [Nat.zero_add] at d4
              have hgx : (ownOf P idT xs N).getD q e0 = x := by
                rw [hat, getD_append, if_neg (by omega), hq2, Nat.sub_self]; rfl
              rw [hgx] at d4
              obtain ⟨f1, f2, hD4⟩ := HI.out.1.setA N (q + 1) hpP
              rw [← hq] at f1
              have f3 := (HI.out.1.setW N 0 hpP).1
              rw [hWj] at f3
              have hjm : j < m := by rw [HM.out]; exact hj
              have hMI : (M : Int) ≤ 8796093021952 := by
                have := HQ.out.2.2.2.1
                have h3 := ownOf_length P idT xs N
                have := HF.out.1
                omega
              have HD4 : Hid (DS w P xs (some ⟨b, 0, none⟩) cg gs ba bw (A.set N (q + 1)) W (wr.setCell ⟨ba, N, none⟩ (.int .i64 ((q + 1 : Nat) : Int)))) := hD4
              have HN : Hid (q = (ownOf P idT (xs.take k) N).length ∧ N < A.length) := ⟨hq2, by rw [HI.out.1.lA]; exact hpP⟩
              have hself : (x.toList == x.toList) = true := by simp
              have hN0 : ¬ (N : Int) < 0 := by omega
              have hNP' : ¬ (P : Int) ≤ N := by omega
              have hj0 : (((j : Int) + 1) == 0) = false := by simp; omega
              have f4 : wr.cell? ⟨bw, N, none⟩ = some (.int .i64 ((j : Int) + 1)) := by rw [f3]; simp
              clear f3
              clear hx hka hp hs' hat hj hjn hWj hq hq2 hgx hD4
              go_wp2_with (go_at_call 11; go_must (refine (of_yes x P h1 h2 _ hxs).mono ?_); rintro e w' ⟨rfl, hw'⟩; subst w'; rw [← HP.out])
              go_quiet (fail)
              go_wp2_with fail
              go_roundw
              case rel =>
                refine ⟨k + 1, A.set N (q + 1), by omega, by go_num, ⟨HD4.out.keepsN ((Keeps.refl _ _).drewN _), fun p' hp' => ?_⟩⟩
                rw [HX.out, ownOf_snoc, getD_set _ _ _ _ _ HN.out.2, show pl P (idT x) = N from HP.out.symm]
                by_cases e : p' = N
                · rw [if_pos e, if_pos e, List.length_append, e, HN.out.1]; rfl
                · rw [if_neg e, if_neg e]; exact HI.out.2 p' hp'
              case measure => simp [intOf] <;> omega
            · have hkn : xs.take k = xs := List.take_of_length_le (by have := HF.out.1; omega)
              have HE : Hid (DS w P xs o cg gs ba bw A W wr ∧ ∀ p, p < P → A.getD p 0 = (ownOf P idT xs p).length) := by have := HI.out; rwa [hkn] at this
              clear HI hkn HW
              rename World => wz
              go_wp2_with fail
              go_loopw [16] (fun i wr => ∃ (k : Nat), k ≤ m ∧ i = .int .i64 k ∧ Hid (Keeps no wz wr)) (fun i _ => m - (intOf i).toNat)
              case atStart => exact ⟨0, by omega, rfl, Keeps.refl _ _⟩
              case round =>
                clear hlt hk
                obtain ⟨k, hk, rfl, HK⟩ := hrel
                have HD5 : Hid (DS w P xs o cg gs ba bw A W wr) := HE.out.1.keepsN HK.out
                by_cases hlt : k < m
                · obtain ⟨b, N, M, oi, ci, rfl, d2, d3, hNP, HQ⟩ := HD5.out.told.part okG rfl rfl k (by rw [← HM.out]; exact hlt)
                  have f1 := (HD5.out.setA N 0 hNP).1
                  rw [HE.out.2 N hNP, ← HQ.out.2.2.2.1] at f1
                  go_wp2_with fail
                  go_quiet (fail)
                  go_wp2_with fail
                  go_roundw
                  case rel => exact ⟨k + 1, by omega, by go_num, HK.out.drewN _⟩
                  case measure => simp [intOf] <;> omega
                · clear HE
                  by_cases hP1 : P = 1
                  · subst hP1
                    by_cases hn0 : n = 0
                    · subst hn0
                      go_wp2_with fail
                      go_ret
                      exact ⟨rfl, HD5.out.told.kp⟩
                    · have hxne : xs ≠ [] := by
                        intro e
                        have := HF.out.1
                        rw [e] at this
                        exact hn0 this
                      have hv := HD5.out.told.val
                      rw [prt, prt, ownOf_one, if_neg hxne] at hv
                      have hm1 : m = 1 := by
                        rw [HM.out]
                        have := congrArg List.length hv
                        simpa using this
                      subst hm1
                      obtain ⟨b, N, M, oi, ci, rfl, d2, d3, hNP, HQ⟩ := HD5.out.told.part okG rfl rfl 0 (by rw [← HM.out]; omega)
                      have hN0 : N = 0 := by omega
                      subst hN0
                      have HS : Hid (M = xs.length ∧ Sl TE wr oi ci xs) := by
                        have e1 := HQ.out.2.2.2.1
                        have e2 := HQ.out.2.2.2.2.2.2
                        rw [ownOf_one] at e1 e2
                        exact ⟨e1, e2.sl⟩
                      have hn1 : ((n : Int) == 0) = false := by simp; omega
                      go_wp2_with fail
                      refine (sameK _ _ _ _ _ _ _ xs HS.out.1 HF.out.1 (by have := HF.out.2.1; omega) HS.out.2 (HF.out.2.2.2.keepsN HD5.out.told.kp)).mono ?_
                      rintro e w' ⟨rfl, hk'⟩
                      go_wp2_with fail
                      go_ret
                      exact ⟨rfl, HD5.out.told.kp.trans hk'⟩
                  · have hP2 : 1 < (P : Int) := by omega
                    go_wp2_with fail
                    go_ret
                    exact ⟨rfl, HD5.out.told.kp⟩
end Go.Proofs.Ytlpfoieoopjmgaa
