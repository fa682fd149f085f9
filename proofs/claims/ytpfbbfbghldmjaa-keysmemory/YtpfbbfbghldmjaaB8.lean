import Derived.Test.YtpfbbfbghldmjaaB7
namespace Go.Proofs.Ytpfbbfbghldmjaa
open Go.RowKit Go.Sort Orl
set_option linter.unusedVariables false
set_option linter.unusedSimpArgs false

theorem own_oneP (w : World) (x y : Tx) : Sl PE (w.alloc (.cells #[.string x, .string y] 34)) (some ⟨w.heap.size, 0, none⟩) 1 [(x, y)] := by
  refine ⟨.inr ⟨w.heap.size, 0, rfl, fun j u hj => ?_⟩, by simp, by simp⟩
  rw [cell_of_blk (blk_new w _)]
  simpa [El.cells, PE] using hj
theorem nrm_take (l : List Pr) (k : Nat) (h : k < l.length) : nrm (l.take (k + 1)) = put ltp p0 (nrm (l.take k)) (l.getD k p0) := by
  rw [take_succ_getD l k p0 h]; exact isort_snoc p0 _ _

/-- the three appends behind the inner loop -/
theorem put_three {w wq : World} {k m : Nat} {out : List Pr} {p : Pr} (hp : pos ltp p0 out p out.length = k) (hk : k ≤ out.length)
    {o3 : Option Addr} {c3 : Nat} {w3 : World} (ho3 : Own PE w3 o3 c3 ([] ++ out.take k ++ [p] ++ out.drop k)) (hn : New w o3) (hkp : Keeps no w w3) :
    Gives PE w (put ltp p0 out p) (.slice o3 (out.length + 1) c3) w3 := by
  have he : put ltp p0 out p = [] ++ out.take k ++ [p] ++ out.drop k := by unfold put; rw [hp]; simp
  rw [he]
  exact ⟨o3, _, c3, rfl, (show _ = _ by simp; omega), ho3, hn, hkp⟩

set_option maxHeartbeats 4000000 in
set_option maxRecDepth 10000 in
theorem refNorm_any (w : World) (a : Option Addr) (n c : Nat) (xs : List Pr) (hn : n = xs.length) (hl : xs.length ≤ 40000) (hf : FitsP xs) (hs : Sl PE w a c xs) :
    Calls Try.prog 25 #[.slice a n c] w fun e w' => ∃ v, e = .returned (.tuple #[v, .int .i64 (if valP xs then 0 else 40)]) ∧ Gives PE w (if valP xs then nrm xs else []) v w' := by
  have hv := refValidPairs_any w a n c xs hn hl hf hs
  have HA : Hid (n = xs.length) := hn
  have hA : (n : Int) ≤ 40000 := by omega
  have HL : Hid (xs.length ≤ 40000) := hl
  clear hn hl hf
  cases e : valP xs <;> rw [e] at hv
  · clear e
    go_enter Try.func25, Try.ntmps25
    go_wp2_with fail
    refine hv.mono ?_
    rintro e w' ⟨rfl, hk⟩
    go_wp2_with fail
    go_ret2
    exact ⟨_, rfl, none, 0, 0, rfl, (show 0 = _ by simp), own_nil _, new_none _, hk⟩
  · clear e
    go_enter Try.func25, Try.ntmps25
    go_wp2_with fail
    refine hv.mono ?_
    rintro e w1 ⟨rfl, hk1⟩
    have HK1 : Hid (Keeps no w w1) := hk1
    clear hv hk1
    go_wp2_with fail
    go_loopw [5, 6] (fun s5 i wr => ∃ (k : Nat) (v : Value), k ≤ n ∧ i = .int .i64 k ∧ s5 = v ∧ Hid (Gives PE w (nrm (xs.take k)) v wr)) (fun _ i _ => n - (intOf i).toNat)
    case atStart => exact ⟨0, _, by omega, rfl, rfl, ⟨none, 0, 0, rfl, (show 0 = _ by simp [nrm, isort]), by simpa [nrm, isort] using own_nil _, new_none _, HK1.out⟩⟩
    case round =>
      obtain ⟨k, v, hk, rfl, rfl, HG⟩ := hrel
      obtain ⟨o, m, d, rfl, hm, ho, hnw, hkp⟩ := HG.out
      rename World => wq
      by_cases h2 : k < n
      · have hka : k < xs.length := by have := HA.out; omega
        have hs' := hs.keepsN hkp
        obtain ⟨b1, off1, rfl, d1, d2⟩ := hs'.atP hka
        rcases hx : xs.getD k p0 with ⟨x1, x2⟩
        rw [hx] at d1 d2
        simp only at d1 d2
        have HX : Hid (xs.getD k p0 = (x1, x2)) := hx
        have hmlen : m ≤ 40000 := by
          have := hm.out; rw [nrm_length, List.length_take] at this; have := HL.out; omega
        have hmI : (m : Int) ≤ 40000 := by omega
        have HM : Hid (m = (nrm (xs.take k)).length) := hm
        have HO : Hid (Own PE wq o d (nrm (xs.take k))) := ho
        have HNK : Hid (New w o ∧ Keeps no w wq) := ⟨hnw, hkp⟩
        obtain ⟨out, hout⟩ : ∃ out, nrm (xs.take k) = out := ⟨_, rfl⟩
        rw [hout] at HM HO
        have HOUT : Hid (nrm (xs.take k) = out) := hout
        clear hx hka hm ho hnw hkp hout HG hs'
        go_wp2_with fail
        go_loopw [7] (fun i wr => ∃ j q : Nat, j ≤ m ∧ i = .int .i64 j ∧ wr = wq.drewN q ∧ Hid (pos ltp p0 out (x1, x2) out.length = pos ltp p0 out (x1, x2) j)) (fun i _ => (intOf i).toNat)
        case atStart => exact ⟨m, 0, by omega, rfl, rfl, show _ = _ by rw [← HM.out]⟩
        case round =>
          obtain ⟨j, q, hj, rfl, rfl, HT⟩ := hrel
          by_cases hj0 : 0 < j
          · obtain ⟨j, rfl⟩ : ∃ j', j = j' + 1 := ⟨j - 1, by omega⟩
            have hjo : j < out.length := by have := HM.out; omega
            obtain ⟨b2, off2, rfl, d3, d4⟩ := HO.out.sl.atP hjo
            rcases hy : out.getD j p0 with ⟨y1, y2⟩
            rw [hy] at d3 d4
            simp only at d3 d4
            have HY : Hid (out.getD j p0 = (y1, y2)) := hy
            clear hy hjo
            have h3 : (0 : Int) < (j : Int) + 1 := by omega
            cases hxy : lts x1 y1
            · have hg := gtr_not y1 x1 hxy
              have HP : Hid (pos ltp p0 out (x1, x2) out.length = j + 1) := show _ = _ by
                rw [HT.out, pos, HY.out]
                show (if lts x1 y1 = true then _ else _) = _
                rw [hxy]; rfl
              have S1 : Hid (Sl PE wq (some ⟨b2, off2, none⟩) d (out.take (j + 1))) := ⟨HO.out.row.take okP _, by have := HO.out.cap.1; rw [List.length_take]; omega, fun h => by cases h⟩
              have S2 : Hid (Sl PE wq _ (d - (j + 1)) (out.drop (j + 1))) := cutP_if (j + 1) HO.out.sl
              have hkc : (j : Int) + 1 ≤ d := by have := HO.out.cap.1; have := HM.out; omega
              have hcase : (Op.bytesLess y1.toList x1.toList = true) ∨ (Op.bytesLess y1.toList x1.toList = false ∧ (y1.toList == x1.toList) = true) := by
                cases e : Op.bytesLess y1.toList x1.toList
                · rw [e] at hg; exact .inr ⟨rfl, by simpa using hg⟩
                · exact .inl rfl
              clear hg hxy HT
              rcases hcase with hc1 | ⟨hc1, hc2⟩
              · go_wp2_with fail
                go_quiet (fail)
                go_wp2_with (at_builtin; first
                  | (refine wpList_app okP rfl _ _ rfl _ _ _ [] rfl rfl (own_nil _) _ _ _ (out.take (j + 1)) rfl (by have := HM.out; rw [List.length_take]; omega) S1.out.nil (S1.out.row.keepsN (by exact kd rfl rfl rfl rfl)) (by have := HM.out; simp [PE] <;> omega) (by have := HM.out; simp <;> omega) ?_; intro o1 c1 w1 ho1 hap1; have kk := (hap1.new (w0 := wq) (new_none _) (kd rfl rfl rfl rfl)).2; have q1 := kk.cellN d1; have q2 := kk.cellN d2)
                  | (refine wpList_app okP rfl _ _ rfl _ _ _ ([] ++ out.take (j + 1)) rfl (by have := HM.out; simp <;> omega) (ho1.keepsN ((Keeps.refl _ _).alloc _)) _ _ _ [(x1, x2)] rfl rfl (own_oneP _ x1 x2).nil (own_oneP _ x1 x2).row (by have := HM.out; simp [PE] <;> omega) (by have := HM.out; simp <;> omega) ?_; intro o2 c2 w2 ho2 hap2)
                  | (refine wpList_app okP rfl _ _ rfl _ _ _ ([] ++ out.take (j + 1) ++ [(x1, x2)]) rfl (by have := HM.out; simp <;> omega) ho2 _ _ _ (out.drop (j + 1)) rfl (by have := HM.out; rw [List.length_drop]; omega) S2.out.nil (by
                      have k1 := hap1.new (w0 := wq) (new_none _) (kd rfl rfl rfl rfl)
                      have k2 := hap2.new (w0 := wq) k1.1 (k1.2.alloc _)
                      exact S2.out.row.keepsN k2.2) (by have := HM.out; simp [PE] <;> omega) (by have := HM.out; simp <;> omega) ?_; intro o3 c3 w3 ho3 hap3))
                all_goals
                  (go_roundw
                   case rel =>
                     have k1 := hap1.new (w0 := wq) (new_none _) (kd rfl rfl rfl rfl)
                     have k2 := hap2.new (w0 := wq) k1.1 (k1.2.alloc _)
                     have k3 := hap3.new (w0 := wq) k2.1 k2.2
                     refine ⟨k + 1, _, by omega, by go_num, rfl, ?_⟩
                     show Gives PE w (nrm (xs.take (k + 1))) _ _
                     rw [nrm_take xs k (by have := HA.out; omega), HX.out, HOUT.out]
                     have he : put ltp p0 out (x1, x2) = [] ++ out.take (j + 1) ++ [(x1, x2)] ++ out.drop (j + 1) := by unfold put; rw [HP.out]; simp
                     rw [he]
                     exact ⟨o3, _, c3, rfl, (show _ = _ by have := HM.out; simp <;> omega), ho3, k3.1.of_le HNK.out.2.size, HNK.out.2.trans k3.2⟩
                   case measure => simp [intOf] <;> omega)
              · go_wp2_with fail
                go_quiet (fail)
                go_wp2_with (at_builtin; first
                  | (refine wpList_app okP rfl _ _ rfl _ _ _ [] rfl rfl (own_nil _) _ _ _ (out.take (j + 1)) rfl (by have := HM.out; rw [List.length_take]; omega) S1.out.nil (S1.out.row.keepsN (by exact kd rfl rfl rfl rfl)) (by have := HM.out; simp [PE] <;> omega) (by have := HM.out; simp <;> omega) ?_; intro o1 c1 w1 ho1 hap1; have kk := (hap1.new (w0 := wq) (new_none _) (kd rfl rfl rfl rfl)).2; have q1 := kk.cellN d1; have q2 := kk.cellN d2)
                  | (refine wpList_app okP rfl _ _ rfl _ _ _ ([] ++ out.take (j + 1)) rfl (by have := HM.out; simp <;> omega) (ho1.keepsN ((Keeps.refl _ _).alloc _)) _ _ _ [(x1, x2)] rfl rfl (own_oneP _ x1 x2).nil (own_oneP _ x1 x2).row (by have := HM.out; simp [PE] <;> omega) (by have := HM.out; simp <;> omega) ?_; intro o2 c2 w2 ho2 hap2)
                  | (refine wpList_app okP rfl _ _ rfl _ _ _ ([] ++ out.take (j + 1) ++ [(x1, x2)]) rfl (by have := HM.out; simp <;> omega) ho2 _ _ _ (out.drop (j + 1)) rfl (by have := HM.out; rw [List.length_drop]; omega) S2.out.nil (by
                      have k1 := hap1.new (w0 := wq) (new_none _) (kd rfl rfl rfl rfl)
                      have k2 := hap2.new (w0 := wq) k1.1 (k1.2.alloc _)
                      exact S2.out.row.keepsN k2.2) (by have := HM.out; simp [PE] <;> omega) (by have := HM.out; simp <;> omega) ?_; intro o3 c3 w3 ho3 hap3))
                all_goals
                  (go_roundw
                   case rel =>
                     have k1 := hap1.new (w0 := wq) (new_none _) (kd rfl rfl rfl rfl)
                     have k2 := hap2.new (w0 := wq) k1.1 (k1.2.alloc _)
                     have k3 := hap3.new (w0 := wq) k2.1 k2.2
                     refine ⟨k + 1, _, by omega, by go_num, rfl, ?_⟩
                     show Gives PE w (nrm (xs.take (k + 1))) _ _
                     rw [nrm_take xs k (by have := HA.out; omega), HX.out, HOUT.out]
                     have he : put ltp p0 out (x1, x2) = [] ++ out.take (j + 1) ++ [(x1, x2)] ++ out.drop (j + 1) := by unfold put; rw [HP.out]; simp
                     rw [he]
                     exact ⟨o3, _, c3, rfl, (show _ = _ by have := HM.out; simp <;> omega), ho3, k3.1.of_le HNK.out.2.size, HNK.out.2.trans k3.2⟩
                   case measure => simp [intOf] <;> omega)
            · obtain ⟨hc1, hc2⟩ := gtr_of y1 x1 hxy
              have HXY : Hid (lts x1 y1 = true) := hxy
              clear hxy
              go_wp2_with fail
              go_quiet (fail)
              go_wp2_with fail
              go_roundw
              case rel =>
                refine ⟨j, _, by omega, by go_num, rfl, ?_⟩
                show pos ltp p0 out (x1, x2) out.length = pos ltp p0 out (x1, x2) j
                rw [HT.out, pos, HY.out]
                show (if lts x1 y1 = true then _ else _) = _
                rw [HXY.out]; rfl
              case measure => simp [intOf] <;> omega
          · obtain rfl : j = 0 := by omega
            have HP : Hid (pos ltp p0 out (x1, x2) out.length = 0) := show _ = _ by rw [HT.out, pos]
            obtain ⟨hr1, hs1⟩ := cutP_h wq _ d out m 0 0 rfl HM.out (by omega) HO.out.sl
            obtain ⟨A, dd, hr2, hs2, hsub⟩ := cutP_l wq _ d out m 0 0 rfl HM.out (by omega) HO.out.sl
            have S1 : Hid (Sl PE wq o d (out.take 0)) := hs1
            have S2 : Hid (Sl PE wq A dd (out.drop 0)) := hs2
            clear HT hs1 hs2
            go_wp2_with fail
            go_quiet (fail)
            have hz : ((0 : Nat) : Int) = 0 := rfl
            simp only [hz]
            clear hz
            go_wp2_with (at_builtin; first
              | (refine wpList_app okP rfl _ _ rfl _ _ _ [] rfl rfl (own_nil _) _ _ _ (out.take 0) rfl (by have := HM.out; rw [List.length_take]; omega) S1.out.nil (S1.out.row.keepsN (by exact kd rfl rfl rfl rfl)) (by have := HM.out; simp [PE] <;> omega) (by have := HM.out; simp <;> omega) ?_; intro o1 c1 w1 ho1 hap1; have kk := (hap1.new (w0 := wq) (new_none _) (kd rfl rfl rfl rfl)).2; have q1 := kk.cellN d1; have q2 := kk.cellN d2)
              | (refine wpList_app okP rfl _ _ rfl _ _ _ ([] ++ out.take 0) rfl (by have := HM.out; simp <;> omega) (ho1.keepsN ((Keeps.refl _ _).alloc _)) _ _ _ [(x1, x2)] rfl rfl (own_oneP _ x1 x2).nil (own_oneP _ x1 x2).row (by have := HM.out; simp [PE] <;> omega) (by have := HM.out; simp <;> omega) ?_; intro o2 c2 w2 ho2 hap2)
              | (refine wpList_app okP rfl _ _ rfl _ _ _ ([] ++ out.take 0 ++ [(x1, x2)]) rfl (by have := HM.out; simp <;> omega) ho2 _ _ _ (out.drop 0) rfl (by have := HM.out; rw [List.length_drop]; omega) S2.out.nil (by
                  have k1 := hap1.new (w0 := wq) (new_none _) (kd rfl rfl rfl rfl)
                  have k2 := hap2.new (w0 := wq) k1.1 (k1.2.alloc _)
                  exact S2.out.row.keepsN k2.2) (by have := HM.out; simp [PE] <;> omega) (by have := HM.out; simp <;> omega) ?_; intro o3 c3 w3 ho3 hap3))
            all_goals
              (go_roundw
               case rel =>
                 have k1 := hap1.new (w0 := wq) (new_none _) (kd rfl rfl rfl rfl)
                 have k2 := hap2.new (w0 := wq) k1.1 (k1.2.alloc _)
                 have k3 := hap3.new (w0 := wq) k2.1 k2.2
                 refine ⟨k + 1, _, by omega, by go_num, rfl, ?_⟩
                 show Gives PE w (nrm (xs.take (k + 1))) _ _
                 rw [nrm_take xs k (by have := HA.out; omega), HX.out, HOUT.out]
                 have he : put ltp p0 out (x1, x2) = [] ++ out.take 0 ++ [(x1, x2)] ++ out.drop 0 := by unfold put; rw [HP.out]; simp
                 rw [he]
                 exact ⟨o3, _, c3, rfl, (show _ = _ by have := HM.out; simp <;> omega), ho3, k3.1.of_le HNK.out.2.size, HNK.out.2.trans k3.2⟩
               case measure => simp [intOf] <;> omega)
      · go_wp2_with fail
        go_ret2
        have he : xs.take k = xs := List.take_of_length_le (by have := HA.out; omega)
        rw [he] at hm ho
        exact ⟨_, rfl, o, m, d, rfl, hm, ho, hnw, hkp⟩
end Go.Proofs.Ytpfbbfbghldmjaa
