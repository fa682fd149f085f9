import Derived.Test.YtpfbbfbghldmjaaC4
namespace Go.Proofs.Ytpfbbfbghldmjaa
open Go.RowKit Go.Sort Orl
set_option linter.unusedVariables false
set_option linter.unusedSimpArgs false

def stepO (out : List Tx) (x : Tx) : List Tx := if inn out x then out else put lts e0 out x
def onc (l : List Tx) : List Tx := l.foldl stepO []
theorem stepO_inc {out : List Tx} (h : Inc lts out) (x : Tx) : Inc lts (stepO out x) := by
  unfold stepO
  cases e : inn out x
  · exact put_inc swoT triT e0 h (fun hm => by rw [(inn_iff out x).2 hm] at e; cases e)
  · exact h
theorem stepO_mem (out : List Tx) (x z : Tx) : z ∈ stepO out x ↔ z = x ∨ z ∈ out := by
  unfold stepO
  cases e : inn out x
  · simp only [Bool.false_eq_true, if_false]; exact put_mem e0 out x z
  · simp only [if_true]
    constructor
    · exact .inr
    · rintro (rfl | h)
      · exact (inn_iff out z).1 e
      · exact h
theorem fold_onc : ∀ (l o : List Tx), Inc lts o → Inc lts (l.foldl stepO o) ∧ (∀ z, z ∈ l.foldl stepO o ↔ z ∈ o ∨ z ∈ l) ∧ (l.foldl stepO o).length ≤ o.length + l.length
  | [], o, h => ⟨h, fun z => by simp, by simp⟩
  | x :: r, o, h => by
    have ih := fold_onc r (stepO o x) (stepO_inc h x)
    simp only [List.foldl_cons]
    refine ⟨ih.1, fun z => ?_, ?_⟩
    · rw [ih.2.1 z, stepO_mem]
      simp only [List.mem_cons]
      constructor
      · rintro ((h | h) | h)
        · exact .inr (.inl h)
        · exact .inl h
        · exact .inr (.inr h)
      · rintro (h | h | h)
        · exact .inl (.inr h)
        · exact .inl (.inl h)
        · exact .inr h
    · have h1 := ih.2.2
      have h2 : (stepO o x).length ≤ o.length + 1 := by
        unfold stepO; split
        · omega
        · rw [put_length]; omega
      simp only [List.length_cons]
      omega
theorem onc_inc (l : List Tx) : Inc lts (onc l) := (fold_onc l [] List.Pairwise.nil).1
theorem onc_mem (l : List Tx) (z : Tx) : z ∈ onc l ↔ z ∈ l := by
  have := (fold_onc l [] List.Pairwise.nil).2.1 z
  simpa [onc] using this
theorem onc_len (l : List Tx) : (onc l).length ≤ l.length := by
  have := (fold_onc l [] List.Pairwise.nil).2.2
  simpa [onc] using this
theorem onc_take (l : List Tx) (k : Nat) (h : k < l.length) : onc (l.take (k + 1)) = stepO (onc (l.take k)) (l.getD k e0) := by
  rw [take_succ_getD l k e0 h]; simp [onc]
/-- where a rising list has the text -/
theorem pos_mem {out : List Tx} (h : Inc lts out) {x : Tx} (hx : x ∈ out) : ∃ j, pos lts e0 out x out.length = j + 1 ∧ out.getD j e0 = x := by
  obtain ⟨j, hj, rfl⟩ := List.getElem_of_mem hx
  have hjd : out[j] = out.getD j e0 := by simp [hj]
  refine ⟨j, ?_, hjd.symm⟩
  have hle := pos_le (lt := lts) e0 out out[j] out.length
  have hA := pos_above (lt := lts) e0 out out[j] out.length
  have hB := pos_at (lt := lts) e0 out out[j] out.length
  generalize pos lts e0 out out[j] out.length = p at *
  have h1 : ¬ p ≤ j := fun hp => by
    have := hA j hp hj
    rw [← hjd, swoT.irrefl] at this; cases this
  have h2 := hB (by omega)
  by_cases e : p - 1 = j
  · omega
  · rw [hjd, inc_getD h e0 (i := j) (j := p - 1) (by omega) (by omega)] at h2; cases h2

set_option maxHeartbeats 8000000 in
set_option maxRecDepth 10000 in
theorem once_any (w : World) (a : Option Addr) (n c : Nat) (xs : List Tx) (hn : n = xs.length) (hn2 : n ≤ 140737488355328) (hs : Sl TE w a c xs) :
    Calls Try.prog 9 #[.slice a n c] w fun e w' => ∃ v, e = .returned v ∧ Gives TE w (onc (xs.take 300)) v w' := by
  have HA : Hid (n = xs.length) := hn
  have hA : (n : Int) ≤ 140737488355328 := by omega
  clear hn hn2
  go_enter Try.func9, Try.ntmps9
  go_wp2_with fail
  go_loopw [3, 4] (fun s5 i wr => ∃ (k : Nat) (v : Value), k ≤ n ∧ k ≤ 300 ∧ i = .int .i64 k ∧ s5 = v ∧ Hid (Gives TE w (onc (xs.take k)) v wr)) (fun _ i _ => 300 - (intOf i).toNat)
  case atStart => exact ⟨0, _, by omega, by omega, rfl, rfl, ⟨none, 0, 0, rfl, (show 0 = _ by simp [onc]), by simpa [onc] using own_nil _, new_none _, Keeps.refl _ _⟩⟩
  case round =>
    obtain ⟨k, v, hk, hk3, rfl, rfl, HG⟩ := hrel
    obtain ⟨o, m, d, rfl, hm, ho, hnw, hkp⟩ := HG.out
    rename World => wq
    by_cases h2 : (k : Int) < n
    · by_cases h3 : (k : Int) < 300
      · have hka : k < xs.length := by have := HA.out; omega
        have hs' := hs.keepsN hkp
        obtain ⟨b1, off1, rfl, d1⟩ := hs'.at hka
        obtain ⟨x, hx⟩ : ∃ x, x = xs.getD k e0 := ⟨_, rfl⟩
        rw [← hx] at d1
        have HX : Hid (x = xs.getD k e0) := hx
        have hmlen : m ≤ 300 := by
          have := hm.out; have h5 := onc_len (xs.take k); rw [List.length_take] at h5; omega
        have hmI : (m : Int) ≤ 300 := by omega
        have HM : Hid (m = (onc (xs.take k)).length) := hm
        have HO : Hid (Own TE wq o d (onc (xs.take k))) := ho
        have HNK : Hid (New w o ∧ Keeps no w wq) := ⟨hnw, hkp⟩
        have hinc := onc_inc (xs.take k)
        obtain ⟨out, hout⟩ : ∃ out, onc (xs.take k) = out := ⟨_, rfl⟩
        rw [hout] at HM HO hinc
        have HOUT : Hid (onc (xs.take k) = out) := hout
        have HINC : Hid (Inc lts out) := hinc
        clear hx hka hm ho hnw hkp hout HG hs' hinc
        go_wp2_with fail
        go_loopw [5] (fun i wr => ∃ j q : Nat, j ≤ m ∧ i = .int .i64 j ∧ wr = wq.drewN q ∧ Hid (pos lts e0 out x out.length = pos lts e0 out x j)) (fun i _ => (intOf i).toNat)
        case atStart => exact ⟨m, 0, by omega, rfl, rfl, show _ = _ by rw [← HM.out]⟩
        case round =>
          obtain ⟨j, q, hj, rfl, rfl, HT⟩ := hrel
          by_cases hj0 : 0 < j
          · obtain ⟨j, rfl⟩ : ∃ j', j = j' + 1 := ⟨j - 1, by omega⟩
            have hjo : j < out.length := by have := HM.out; omega
            obtain ⟨b2, off2, rfl, d3⟩ := HO.out.sl.at hjo
            obtain ⟨y, hy⟩ : ∃ y, y = out.getD j e0 := ⟨_, rfl⟩
            rw [← hy] at d3
            have HY : Hid (y = out.getD j e0) := hy
            have HJO : Hid (j < out.length) := hjo
            clear hy hjo
            have h4 : (0 : Int) < (j : Int) + 1 := by omega
            cases hxy : lts x y
            · have HP : Hid (pos lts e0 out x out.length = j + 1) := show _ = _ by
                rw [HT.out, pos, ← HY.out, hxy]; rfl
              have S1 : Hid (Sl TE wq (some ⟨b2, off2, none⟩) d (out.take (j + 1))) := ⟨HO.out.row.take okT _, by have := HO.out.cap.1; rw [List.length_take]; omega, fun h => by cases h⟩
              have S2 : Hid (Sl TE wq _ (d - (j + 1)) (out.drop (j + 1))) := cutT_if (j + 1) HO.out.sl
              have hkc : (j : Int) + 1 ≤ d := by have := HO.out.cap.1; have := HM.out; omega
              by_cases exy : y = x
              · have HI : Hid (inn out x = true) := (inn_iff out x).2 (by rw [← exy, HY.out]; exact getD_mem_lt e0 HJO.out)
                have hc1 : Op.bytesLess y.toList x.toList = false := by rw [exy]; exact swoT.irrefl x
                have hc2 : (y.toList == x.toList) = true := by rw [tx_eq, exy]; simp
                clear hxy HT exy
                go_wp2_with fail
                go_quiet (fail)
                go_wp2_with fail
                generalize hW : (wq.drewN _ : World) = wz
                have d1z : wz.cell? ⟨b1, off1 + k, none⟩ = some (.string x) := by rw [← hW]; exact d1
                have d3z : wz.cell? ⟨b2, off2 + j, none⟩ = some (.string y) := by rw [← hW]; exact d3
                have HW : Hid (Keeps no wq wz) := by rw [← hW]; exact (Keeps.refl _ _).drewN _
                clear hW
                go_quiet (fail)
                go_wp2_with fail
                go_roundw
                case rel =>
                  refine ⟨k + 1, _, by omega, by omega, by go_num, rfl, ?_⟩
                  show Gives TE w (onc (xs.take (k + 1))) _ _
                  rw [onc_take xs k (by have := HA.out; omega), ← HX.out, HOUT.out]
                  have he : stepO out x = out := by unfold stepO; rw [HI.out]; rfl
                  rw [he]
                  exact ⟨_, _, _, rfl, HM, HO.out.keepsN (HW.out.drewN _), HNK.out.1, HNK.out.2.trans (HW.out.drewN _)⟩
                case measure => simp [intOf] <;> omega
              · have HI : Hid (inn out x = false) := inn_no (fun hm => by
                  obtain ⟨j', h1, h2⟩ := pos_mem HINC.out hm
                  rw [HP.out] at h1
                  obtain rfl : j = j' := by omega
                  exact exy (by rw [HY.out, h2]))
                have hc1 : Op.bytesLess y.toList x.toList = true := by
                  cases e : lts y x with
                  | true => exact e
                  | false => exact absurd (triT y x e hxy) exy
                have hc2 : (y.toList == x.toList) = false := by rw [tx_eq]; simpa using exy
                clear hxy HT exy
                go_wp2_with fail
                go_quiet (fail)
                go_wp2_with fail
                generalize hW : (wq.drewN _ : World) = wz
                have d1z : wz.cell? ⟨b1, off1 + k, none⟩ = some (.string x) := by rw [← hW]; exact d1
                have d3z : wz.cell? ⟨b2, off2 + j, none⟩ = some (.string y) := by rw [← hW]; exact d3
                have HW : Hid (Keeps no wq wz) := by rw [← hW]; exact (Keeps.refl _ _).drewN _
                clear hW
                go_quiet (fail)
                go_wp2_with (at_builtin; first
                  | (refine wpList_app okT rfl _ _ rfl _ _ _ [] rfl rfl (own_nil _) _ _ _ (out.take (j + 1)) rfl (by have := HM.out; rw [List.length_take]; omega) S1.out.nil (S1.out.row.keepsN (by exact HW.out.drewN _)) (by have := HM.out; simp [TE] <;> omega) (by have := HM.out; simp <;> omega) ?_; intro o1 c1 w1 ho1 hap1; have kk := (hap1.new (w0 := wq) (new_none _) (HW.out.drewN _)).2; have q1 := kk.cellN d1)
                  | (refine wpList_app okT rfl _ _ rfl _ _ _ ([] ++ out.take (j + 1)) rfl (by have := HM.out; simp <;> omega) (ho1.keepsN ((Keeps.refl _ _).alloc _)) _ _ _ [x] rfl rfl (own_one _ x).nil (own_one _ x).row (by have := HM.out; simp [TE] <;> omega) (by have := HM.out; simp <;> omega) ?_; intro o2 c2 w2 ho2 hap2)
                  | (refine wpList_app okT rfl _ _ rfl _ _ _ ([] ++ out.take (j + 1) ++ [x]) rfl (by have := HM.out; simp <;> omega) ho2 _ _ _ (out.drop (j + 1)) rfl (by have := HM.out; rw [List.length_drop]; omega) S2.out.nil (by
                      have k1 := hap1.new (w0 := wq) (new_none _) (HW.out.drewN _)
                      have k2 := hap2.new (w0 := wq) k1.1 (k1.2.alloc _)
                      exact S2.out.row.keepsN k2.2) (by have := HM.out; simp [TE] <;> omega) (by have := HM.out; simp <;> omega) ?_; intro o3 c3 w3 ho3 hap3))
                all_goals
                  (go_roundw
                   case rel =>
                     have k1 := hap1.new (w0 := wq) (new_none _) (HW.out.drewN _)
                     have k2 := hap2.new (w0 := wq) k1.1 (k1.2.alloc _)
                     have k3 := hap3.new (w0 := wq) k2.1 k2.2
                     refine ⟨k + 1, _, by omega, by omega, by go_num, rfl, ?_⟩
                     show Gives TE w (onc (xs.take (k + 1))) _ _
                     rw [onc_take xs k (by have := HA.out; omega), ← HX.out, HOUT.out]
                     have he : stepO out x = [] ++ out.take (j + 1) ++ [x] ++ out.drop (j + 1) := by unfold stepO put; rw [HI.out, HP.out]; simp
                     rw [he]
                     exact ⟨o3, _, c3, rfl, (show _ = _ by have := HM.out; simp <;> omega), ho3, k3.1.of_le HNK.out.2.size, HNK.out.2.trans k3.2⟩
                   case measure => simp [intOf] <;> omega)
            · obtain ⟨hc1, hc2⟩ := gtr_of y x hxy
              have HXY : Hid (lts x y = true) := hxy
              clear hxy
              go_wp2_with fail
              go_quiet (fail)
              go_wp2_with fail
              go_roundw
              case rel =>
                refine ⟨j, _, by omega, by go_num, rfl, ?_⟩
                show pos lts e0 out x out.length = pos lts e0 out x j
                rw [HT.out, pos, ← HY.out, HXY.out]; rfl
              case measure => simp [intOf] <;> omega
          · obtain rfl : j = 0 := by omega
            have HP : Hid (pos lts e0 out x out.length = 0) := show _ = _ by rw [HT.out, pos]
            have HI : Hid (inn out x = false) := inn_no (fun hm => by
              obtain ⟨j', h1, h2⟩ := pos_mem HINC.out hm
              rw [HP.out] at h1
              omega)
            obtain ⟨hr1, hs1⟩ := cutT_h wq _ d out m 0 0 rfl HM.out (by omega) HO.out.sl
            obtain ⟨A, dd, hr2, hs2, hsub⟩ := cutT_l wq _ d out m 0 0 rfl HM.out (by omega) HO.out.sl
            have S1 : Hid (Sl TE wq o d (out.take 0)) := hs1
            have S2 : Hid (Sl TE wq A dd (out.drop 0)) := hs2
            clear HT hs1 hs2
            go_wp2_with fail
            go_quiet (fail)
            have hz : ((0 : Nat) : Int) = 0 := rfl
            simp only [hz]
            go_wp2_with fail
            go_quiet (fail)
            try simp only [hz]
            clear hz
            go_wp2_with (at_builtin; first
              | (refine wpList_app okT rfl _ _ rfl _ _ _ [] rfl rfl (own_nil _) _ _ _ (out.take (0)) rfl (by have := HM.out; rw [List.length_take]; omega) S1.out.nil (S1.out.row.keepsN (by exact kd rfl rfl rfl rfl)) (by have := HM.out; simp [TE] <;> omega) (by have := HM.out; simp <;> omega) ?_; intro o1 c1 w1 ho1 hap1; have kk := (hap1.new (w0 := wq) (new_none _) (kd rfl rfl rfl rfl)).2; have q1 := kk.cellN d1)
              | (refine wpList_app okT rfl _ _ rfl _ _ _ ([] ++ out.take (0)) rfl (by have := HM.out; simp <;> omega) (ho1.keepsN ((Keeps.refl _ _).alloc _)) _ _ _ [x] rfl rfl (own_one _ x).nil (own_one _ x).row (by have := HM.out; simp [TE] <;> omega) (by have := HM.out; simp <;> omega) ?_; intro o2 c2 w2 ho2 hap2)
              | (refine wpList_app okT rfl _ _ rfl _ _ _ ([] ++ out.take (0) ++ [x]) rfl (by have := HM.out; simp <;> omega) ho2 _ _ _ (out.drop (0)) rfl (by have := HM.out; rw [List.length_drop]; omega) S2.out.nil (by
                  have k1 := hap1.new (w0 := wq) (new_none _) (kd rfl rfl rfl rfl)
                  have k2 := hap2.new (w0 := wq) k1.1 (k1.2.alloc _)
                  exact S2.out.row.keepsN k2.2) (by have := HM.out; simp [TE] <;> omega) (by have := HM.out; simp <;> omega) ?_; intro o3 c3 w3 ho3 hap3))
            all_goals
              (go_roundw
               case rel =>
                 have k1 := hap1.new (w0 := wq) (new_none _) (kd rfl rfl rfl rfl)
                 have k2 := hap2.new (w0 := wq) k1.1 (k1.2.alloc _)
                 have k3 := hap3.new (w0 := wq) k2.1 k2.2
                 refine ⟨k + 1, _, by omega, by omega, by go_num, rfl, ?_⟩
                 show Gives TE w (onc (xs.take (k + 1))) _ _
                 rw [onc_take xs k (by have := HA.out; omega), ← HX.out, HOUT.out]
                 have he : stepO out x = [] ++ out.take (0) ++ [x] ++ out.drop (0) := by unfold stepO put; rw [HI.out, HP.out]; simp
                 rw [he]
                 exact ⟨o3, _, c3, rfl, (show _ = _ by have := HM.out; simp <;> omega), ho3, k3.1.of_le HNK.out.2.size, HNK.out.2.trans k3.2⟩
               case measure => simp [intOf] <;> omega)
      · go_wp2_with fail
        go_ret
        have he : xs.take 300 = xs.take k := by rw [show k = 300 by omega]
        rw [he]
        exact ⟨_, rfl, o, m, d, rfl, hm, ho, hnw, hkp⟩
    · go_wp2_with fail
      go_ret
      have he : xs.take 300 = xs.take k := by
        rw [List.take_of_length_le (by have := HA.out; omega), List.take_of_length_le (by have := HA.out; omega)]
      rw [he]
      exact ⟨_, rfl, o, m, d, rfl, hm, ho, hnw, hkp⟩
end Go.Proofs.Ytpfbbfbghldmjaa
