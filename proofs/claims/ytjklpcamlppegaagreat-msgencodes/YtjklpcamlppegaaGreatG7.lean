import Derived.Test.YtjklpcamlppegaaGreatG6
/- The document's Body: one kind of messages. -/
namespace Go.Proofs.YtjklpcamlppegaaGreat
open Go.RowKit Go.Sort Orl Pk
set_option linter.unusedVariables false
set_option linter.unusedSimpArgs false

set_option maxRecDepth 20000 in
set_option maxHeartbeats 8000000 in
theorem Body_prep (w : World) (k cl : Int) (q i : Nat) (op : Option Addr) (np cp : Nat) (ok : Option Addr) (nk ck : Nat) (ow : Option Addr) (nw cw : Nat) (ov : Option Addr) (nv cv : Nat) (rs : List RV) (m : Msg)
    (h : IsM w k cl q i op np cp ok nk ck ow nw cw ov nv cv rs m) (hkr : 1 ≤ k ∧ k ≤ 8) (hcr : 0 ≤ cl ∧ cl ≤ 15) (hG : k = 1 ∧ (valK m.keys = true ∧ valP m.pairs = true) ∧ layF m = num 8 m.id ++ (txts (natss m.keys) ++ (num 4 m.pairs.length ++ layP m.pairs))) :
    Calls Tryz.prog 36 #[.agg #[.int .i64 k, .int .i64 cl, .int .u64 (q : Nat), .int .u64 (i : Nat), .slice op np cp, .slice ok nk ck, .slice ow nw cw, .slice ov nv cv]] w (TellsN w (body m)) := by
  have hq : q < 18446744073709551616 := by rw [h.q]; exact h.rng.req
  have hi : i < 18446744073709551616 := by rw [h.i]; exact h.rng.id
  obtain ⟨K, rfl⟩ : ∃ K : Nat, k = (K : Nat) := ⟨k.toNat, by omega⟩
  obtain ⟨C, rfl⟩ : ∃ C : Nat, cl = (C : Nat) := ⟨cl.toNat, by omega⟩
  have H : Hid (IsM w K C q i op np cp ok nk ck ow nw cw ov nv cv rs m) := h
  have hK8 : K ≤ 8 := by omega
  have hC15 : C ≤ 15 := by omega
  have hcK : ((K : Int) % 256) = (K : Int) := by omega
  have hcC : ((C : Int) % 256) = (C : Int) := by omega
  have HG : Hid _ := hG
  clear hG
  have b1 : (((K : Nat) : Int) == 1) = true := by have h0 := HG.out.1; simp; omega
  have b3 : (((K : Nat) : Int) == 3) = false := by have h0 := HG.out.1; simp; omega
  have b4 : (((K : Nat) : Int) == 4) = false := by have h0 := HG.out.1; simp; omega
  have b7 : (((K : Nat) : Int) == 7) = false := by have h0 := HG.out.1; simp; omega
  obtain ⟨L, hL⟩ : ∃ L, L = body m := ⟨_, rfl⟩
  rw [← hL]
  have HL : Hid (L = num 1 K ++ num 1 C ++ num 8 q ++ layF m) := by
    show _ = _
    rw [hL]; unfold body
    rw [← h.k, ← h.cl, ← h.q]
    simp
  have HI : Hid (i = m.id) := h.i
  clear h hL
  have k0 : Keeps no w (w.alloc (.cells #[.int .i64 (K : Nat), .int .i64 (C : Nat), .int .u64 (q : Nat), .int .u64 (i : Nat), .slice op np cp, .slice ok nk ck, .slice ow nw cw, .slice ov nv cv] 29)) := (Keeps.refl no w).alloc _
  have hB0 := blk_new w (.cells #[.int .i64 (K : Nat), .int .i64 (C : Nat), .int .u64 (q : Nat), .int .u64 (i : Nat), .slice op np cp, .slice ok nk ck, .slice ow nw cw, .slice ov nv cv] 29)
  obtain ⟨A, hA⟩ : ∃ A, A = w.heap.size := ⟨_, rfl⟩
  have HA : Hid (A = w.heap.size) := hA
  obtain ⟨W0, hW0⟩ : ∃ W, W = w.alloc (.cells #[.int .i64 (K : Nat), .int .i64 (C : Nat), .int .u64 (q : Nat), .int .u64 (i : Nat), .slice op np cp, .slice ok nk ck, .slice ow nw cw, .slice ov nv cv] 29) := ⟨_, rfl⟩
  have hL2 : Hid (Has W0 (some ⟨w.heap.size + 1, 0, none⟩) 2 2 (num 1 K ++ num 1 C) (W0.alloc (.cells #[.int .u8 (K : Nat), .int .u8 (C : Nat)] 5))) := by
    have := has_lit W0 (num 1 K ++ num 1 C) 2 (by simp [num_length]) (by simp [num_length])
    rw [← top_row K C (by omega) (by omega)] at this
    have e : W0.heap.size = w.heap.size + 1 := by rw [hW0]; simp
    rwa [e] at this
  have HB : Hid (W0.heap[w.heap.size]? = some (.cells #[.int .i64 (K : Nat), .int .i64 (C : Nat), .int .u64 (q : Nat), .int .u64 (i : Nat), .slice op np cp, .slice ok nk ck, .slice ow nw cw, .slice ov nv cv] 29 (0, 0))) := by rw [hW0]; exact hB0
  have HW0 : Hid (Keeps no w W0) := by rw [hW0]; exact k0
  clear hB0 k0
  go_enter Tryz.func36, Tryz.ntmps36
  go_wp2_with fail
  rw [← hW0]
  refine (num8_any _ q hq).mono ?_
  rintro e wa ⟨oa, na, ca, rfl, hna, hoa, hwa, ka⟩
  rw [← hA] at HB ⊢
  obtain ⟨B, hB⟩ : ∃ B, B = A + 1 := ⟨_, rfl⟩
  rw [← hA, ← hB] at hL2
  try rw [← hB]
  clear hA hW0 hB
  go_wp2_with (at_builtin; go_must (refine wpList_has rfl _ _ rfl rfl hL2.out rfl hna.out hoa (num_lt _ _) ka (by rw [hna.out, num_length]; omega) ?_); intro o3 c3 w3 h3; have H3 : Hid _ := h3; obtain ⟨x0, x1, x2, x3, x4, x5, x6, x7⟩ := cells8 (h3.kp.at HB.out (fun h => h)); clear h3)
  have h10 : Hid (2 + na = 10) := by show _ = _; rw [hna.out, num_length]
  rw [h10.out] at H3
  rw [h10.out]
  have HT : Hid (Txs m.keys → (txts (natss m.keys)).length = 4 + bodyLen (natss m.keys) ∧ bodyLen (natss m.keys) ≤ 67111936) := fun h => ⟨txts_length _, h.all⟩
  obtain ⟨g0, g6, g7⟩ := HG.out
  have G7 : Hid (layF m = num 8 i ++ (txts (natss m.keys) ++ (num 4 m.pairs.length ++ layP m.pairs))) := by rw [HI.out]; exact g7
  have G6 : Hid (valK m.keys = true ∧ valP m.pairs = true) := g6
  have lp : np ≤ 1024 := by rw [H.out.np]; exact (valP_all g6.2).1
  have HTX := HT.out (valK_txs g6.1)
  have HX1 : Hid ((txts (natss m.keys)).length ≤ 67111940) := by show _ ≤ _; omega
  clear g0 g6 g7 HTX
  refine (num8_any _ i hi).mono ?_
  rintro e wb ⟨ob, nb, cb, rfl, hnb, hob, hwb, kb⟩
  go_wp2_with (at_builtin; go_must (refine wpList_has rfl _ _ rfl rfl H3.out rfl hnb.out hob (num_lt _ _) kb (by rw [hnb.out, num_length]; omega) ?_); intro o4 c4 w4 h4; have H4 : Hid _ := h4; obtain ⟨x0, x1, x2, x3, x4, x5, x6, x7⟩ := cells8 (h4.kp.at HB.out (fun h => h)); clear h4)
  have nb8 : nb = 8 := by rw [hnb.out, num_length]
  subst nb8
  refine (texts_any w4 ok nk ck m.keys H.out.nk (valK_txs G6.out.1) (H.out.kys.keepsN (HW0.out.trans H4.out.kp))).mono ?_
  rintro e wd ⟨od, nd, cd, rfl, hnd, hod, hwd, kd'⟩
  have hnd2 : nd ≤ 67111940 := by rw [hnd.out]; exact HX1.out
  go_wp2_with (at_builtin; go_must (refine wpList_has rfl _ _ rfl rfl H4.out rfl hnd.out hod (btxts_lt _) kd' (by omega) ?_); intro o5 c5 w5 h5; have H5 : Hid _ := h5; obtain ⟨x0, x1, x2, x3, x4, x5, x6, x7⟩ := cells8 (h5.kp.at HB.out (fun h => h)); clear h5)
  refine (num4_any w5 np (by omega)).mono ?_
  rintro e we ⟨oe, ne, ce, rfl, hne, hoe, hwe, ke⟩
  have ne4 : ne = 4 := by rw [hne.out, num_length]
  subst ne4
  go_wp2_with (at_builtin; go_must (refine wpList_has rfl _ _ rfl rfl H5.out rfl hne.out hoe (num_lt _ _) ke (by omega) ?_); intro o6 c6 w6 h6; have H6 : Hid _ := h6; obtain ⟨x0, x1, x2, x3, x4, x5, x6, x7⟩ := cells8 (h6.kp.at HB.out (fun h => h)); clear h6)
  have HP2 : Hid (∀ p ∈ m.pairs, p.1.size ≤ 65535 ∧ p.2.size ≤ 65535) := (valP_all G6.out.2).2.2
  obtain ⟨X6, hX6⟩ : ∃ X, X = num 1 K ++ num 1 C ++ num 8 q ++ num 8 i ++ txts (natss m.keys) ++ num 4 np := ⟨_, rfl⟩
  rw [← hX6] at H6
  have HX6 : Hid (X6 = num 1 K ++ num 1 C ++ num 8 q ++ num 8 i ++ txts (natss m.keys) ++ num 4 np) := hX6
  have hN6 : Hid (X6.length = 10 + 8 + nd + 4) := by show _ = _; exact H6.out.n.symm
  clear hX6
  go_loopw [3, 4] (fun s j wr => ∃ t : Nat, ∃ oo mo co, t ≤ np ∧ j = .int .i64 t ∧ s = .slice oo mo co ∧ Hid (Has W0 oo mo co (X6 ++ layP (m.pairs.take t)) wr)) (fun _ j _ => np - (intOf j).toNat)
  case atStart => exact ⟨0, _, _, _, by omega, rfl, rfl, by simpa [layP] using H6⟩
  case round =>
    obtain ⟨t, oo, mo, co, ht, rfl, rfl, HS⟩ := hrel
    clear x0 x1 x2 x3 x4 x5 x6 x7
    obtain ⟨x0, x1, x2, x3, x4, x5, x6, x7⟩ := cells8 (HS.out.kp.at HB.out (fun h => h))
    by_cases h2 : t < np
    · have hta : t < m.pairs.length := by rw [← H.out.np]; exact h2
      obtain ⟨b1, off1, rfl, d1, d2⟩ := (H.out.prs.keepsN (HW0.out.trans HS.out.kp)).atP hta
      have hsz := HP2.out _ (getD_mem_lt p0 hta)
      have HSN : Hid (layP (m.pairs.take (t + 1)) = layP (m.pairs.take t) ++ txt (nats (m.pairs.getD t p0).1) ++ txt (nats (m.pairs.getD t p0).2)) := by
        show _ = _
        rw [take_succ_getD m.pairs t p0 hta]; simp [layP, layP1]
      have hmo : mo ≤ 210000000 := by
        have h1 := HS.out.n
        have h2 := layP_le m.pairs HP2.out t (by omega)
        have h3 := hN6.out
        have : t * 131078 ≤ 1024 * 131078 := Nat.mul_le_mul_right _ (by omega)
        rw [List.length_append] at h1
        omega
      have HTA : Hid (t < m.pairs.length) := hta
      obtain ⟨s1, hs1⟩ : ∃ s, s = (m.pairs.getD t p0).1 := ⟨_, rfl⟩
      obtain ⟨s2, hs2⟩ : ∃ s, s = (m.pairs.getD t p0).2 := ⟨_, rfl⟩
      have HD2 : Hid (∀ w', Keeps no w w' → w'.cell? ⟨b1, off1 + t * 2 + 1, none⟩ = some (.string s2)) := fun w' hk => by rw [hs2]; exact ((H.out.prs.keepsN hk).atP' HTA.out).2
      rw [← hs1] at d1 hsz HSN
      rw [← hs2] at d2 hsz HSN
      clear hs1 hs2 hta
      have hl1 : Hid ((txt (nats s1)).length = 4 + s1.size) := by show _ = _; rw [txt_length, nats_length]
      have hl2 : Hid ((txt (nats s2)).length = 4 + s2.size) := by show _ = _; rw [txt_length, nats_length]
      go_wp2_with fail
      refine (text_any wr s1 hsz.1).mono ?_
      rintro e wf ⟨of, nf, cf, rfl, hnf, hof, hwf, kf⟩
      have hnf2 : nf ≤ 65539 := by rw [hnf.out, hl1.out]; omega
      go_wp2_with (at_builtin; go_must (refine wpList_has rfl _ _ rfl rfl HS.out rfl hnf.out hof (txt_lt _) kf (by omega) ?_); intro og cg wg hg; have Hg : Hid _ := hg; clear hg; obtain ⟨x0, x1, x2, x3, x4, x5, x6, x7⟩ := cells8 (Hg.out.kp.at HB.out (fun h => h)); have e2 := HD2.out wg (HW0.out.trans Hg.out.kp))
      refine (text_any wg s2 hsz.2).mono ?_
      rintro e wh ⟨oh, nh, ch, rfl, hnh, hoh, hwh, kh⟩
      have hnh2 : nh ≤ 65539 := by rw [hnh.out, hl2.out]; omega
      go_wp2_with (at_builtin; go_must (refine wpList_has rfl _ _ rfl rfl Hg.out rfl hnh.out hoh (txt_lt _) kh (by omega) ?_); intro oj cj wj hj; have Hj : Hid _ := hj; clear hj)
      go_roundw
      case rel =>
        refine ⟨t + 1, oj, _, cj, by omega, by go_num, rfl, ?_⟩
        have := Hj.out
        show Has _ _ _ _ _ _
        rw [HSN.out]
        simpa only [List.append_assoc] using this
      case measure => simp [intOf]; omega
    · have htn : t = np := by omega
      go_wp2
      go_ret
      have h9 := HS.out
      rw [htn, H.out.np, List.take_length] at h9
      refine ⟨_, _, _, rfl, ?_, ?_, h9.new.of_le HW0.out.size, HW0.out.trans h9.kp⟩
      · show _ = _; rw [HL.out, G7.out, ← H.out.np]; have := h9.n; rw [HX6.out] at this; simpa only [List.append_assoc] using this
      · rw [HL.out, G7.out, ← H.out.np]; have := h9.own; rw [HX6.out] at this; simpa only [List.append_assoc] using this
end Go.Proofs.YtjklpcamlppegaaGreat
/- The document's Body: one kind of messages. -/
namespace Go.Proofs.YtjklpcamlppegaaGreat
open Go.RowKit Go.Sort Orl Pk
set_option linter.unusedVariables false
set_option linter.unusedSimpArgs false

set_option maxRecDepth 20000 in
set_option maxHeartbeats 8000000 in
theorem Body_plain (w : World) (k cl : Int) (q i : Nat) (op : Option Addr) (np cp : Nat) (ok : Option Addr) (nk ck : Nat) (ow : Option Addr) (nw cw : Nat) (ov : Option Addr) (nv cv : Nat) (rs : List RV) (m : Msg)
    (h : IsM w k cl q i op np cp ok nk ck ow nw cw ov nv cv rs m) (hkr : 1 ≤ k ∧ k ≤ 8) (hcr : 0 ≤ cl ∧ cl ≤ 15) (hG : plainK k ∧ layF m = num 8 m.id) :
    Calls Tryz.prog 36 #[.agg #[.int .i64 k, .int .i64 cl, .int .u64 (q : Nat), .int .u64 (i : Nat), .slice op np cp, .slice ok nk ck, .slice ow nw cw, .slice ov nv cv]] w (TellsN w (body m)) := by
  have hq : q < 18446744073709551616 := by rw [h.q]; exact h.rng.req
  have hi : i < 18446744073709551616 := by rw [h.i]; exact h.rng.id
  obtain ⟨K, rfl⟩ : ∃ K : Nat, k = (K : Nat) := ⟨k.toNat, by omega⟩
  obtain ⟨C, rfl⟩ : ∃ C : Nat, cl = (C : Nat) := ⟨cl.toNat, by omega⟩
  have H : Hid (IsM w K C q i op np cp ok nk ck ow nw cw ov nv cv rs m) := h
  have hK8 : K ≤ 8 := by omega
  have hC15 : C ≤ 15 := by omega
  have hcK : ((K : Int) % 256) = (K : Int) := by omega
  have hcC : ((C : Int) % 256) = (C : Int) := by omega
  have HG : Hid _ := hG
  clear hG
  have b1 : (((K : Nat) : Int) == 1) = false := by have h0 := HG.out.1; unfold plainK at h0; simp; omega
  have b3 : (((K : Nat) : Int) == 3) = false := by have h0 := HG.out.1; unfold plainK at h0; simp; omega
  have b4 : (((K : Nat) : Int) == 4) = false := by have h0 := HG.out.1; unfold plainK at h0; simp; omega
  have b7 : (((K : Nat) : Int) == 7) = false := by have h0 := HG.out.1; unfold plainK at h0; simp; omega
  obtain ⟨L, hL⟩ : ∃ L, L = body m := ⟨_, rfl⟩
  rw [← hL]
  have HL : Hid (L = num 1 K ++ num 1 C ++ num 8 q ++ layF m) := by
    show _ = _
    rw [hL]; unfold body
    rw [← h.k, ← h.cl, ← h.q]
    simp
  have HI : Hid (i = m.id) := h.i
  clear h hL
  have k0 : Keeps no w (w.alloc (.cells #[.int .i64 (K : Nat), .int .i64 (C : Nat), .int .u64 (q : Nat), .int .u64 (i : Nat), .slice op np cp, .slice ok nk ck, .slice ow nw cw, .slice ov nv cv] 29)) := (Keeps.refl no w).alloc _
  have hB0 := blk_new w (.cells #[.int .i64 (K : Nat), .int .i64 (C : Nat), .int .u64 (q : Nat), .int .u64 (i : Nat), .slice op np cp, .slice ok nk ck, .slice ow nw cw, .slice ov nv cv] 29)
  obtain ⟨A, hA⟩ : ∃ A, A = w.heap.size := ⟨_, rfl⟩
  have HA : Hid (A = w.heap.size) := hA
  obtain ⟨W0, hW0⟩ : ∃ W, W = w.alloc (.cells #[.int .i64 (K : Nat), .int .i64 (C : Nat), .int .u64 (q : Nat), .int .u64 (i : Nat), .slice op np cp, .slice ok nk ck, .slice ow nw cw, .slice ov nv cv] 29) := ⟨_, rfl⟩
  have hL2 : Hid (Has W0 (some ⟨w.heap.size + 1, 0, none⟩) 2 2 (num 1 K ++ num 1 C) (W0.alloc (.cells #[.int .u8 (K : Nat), .int .u8 (C : Nat)] 5))) := by
    have := has_lit W0 (num 1 K ++ num 1 C) 2 (by simp [num_length]) (by simp [num_length])
    rw [← top_row K C (by omega) (by omega)] at this
    have e : W0.heap.size = w.heap.size + 1 := by rw [hW0]; simp
    rwa [e] at this
  have HB : Hid (W0.heap[w.heap.size]? = some (.cells #[.int .i64 (K : Nat), .int .i64 (C : Nat), .int .u64 (q : Nat), .int .u64 (i : Nat), .slice op np cp, .slice ok nk ck, .slice ow nw cw, .slice ov nv cv] 29 (0, 0))) := by rw [hW0]; exact hB0
  have HW0 : Hid (Keeps no w W0) := by rw [hW0]; exact k0
  clear hB0 k0
  go_enter Tryz.func36, Tryz.ntmps36
  go_wp2_with fail
  rw [← hW0]
  refine (num8_any _ q hq).mono ?_
  rintro e wa ⟨oa, na, ca, rfl, hna, hoa, hwa, ka⟩
  rw [← hA] at HB ⊢
  obtain ⟨B, hB⟩ : ∃ B, B = A + 1 := ⟨_, rfl⟩
  rw [← hA, ← hB] at hL2
  try rw [← hB]
  clear hA hW0 hB
  go_wp2_with (at_builtin; go_must (refine wpList_has rfl _ _ rfl rfl hL2.out rfl hna.out hoa (num_lt _ _) ka (by rw [hna.out, num_length]; omega) ?_); intro o3 c3 w3 h3; have H3 : Hid _ := h3; obtain ⟨x0, x1, x2, x3, x4, x5, x6, x7⟩ := cells8 (h3.kp.at HB.out (fun h => h)); clear h3)
  have h10 : Hid (2 + na = 10) := by show _ = _; rw [hna.out, num_length]
  rw [h10.out] at H3
  rw [h10.out]
  have HT : Hid (Txs m.keys → (txts (natss m.keys)).length = 4 + bodyLen (natss m.keys) ∧ bodyLen (natss m.keys) ≤ 67111936) := fun h => ⟨txts_length _, h.all⟩
  obtain ⟨g0, g7⟩ := HG.out
  have G7 : Hid (layF m = num 8 i) := by rw [HI.out]; exact g7
  clear g0 g7
  refine (num8_any _ i hi).mono ?_
  rintro e wb ⟨ob, nb, cb, rfl, hnb, hob, hwb, kb⟩
  go_wp2_with (at_builtin; go_must (refine wpList_has rfl _ _ rfl rfl H3.out rfl hnb.out hob (num_lt _ _) kb (by rw [hnb.out, num_length]; omega) ?_); intro o4 c4 w4 h4; have H4 : Hid _ := h4; clear h4)
  go_ret
  refine ⟨_, _, _, rfl, ?_, ?_, H4.out.new.of_le HW0.out.size, HW0.out.trans H4.out.kp⟩
  · show _ = _; rw [HL.out, G7.out]; have := H4.out.n; simpa only [List.append_assoc] using this
  · rw [HL.out, G7.out]; have := H4.out.own; simpa only [List.append_assoc] using this
end Go.Proofs.YtjklpcamlppegaaGreat
/- The document's Body: one kind of messages. -/
namespace Go.Proofs.YtjklpcamlppegaaGreat
open Go.RowKit Go.Sort Orl Pk
set_option linter.unusedVariables false
set_option linter.unusedSimpArgs false

set_option maxRecDepth 20000 in
set_option maxHeartbeats 8000000 in
theorem Body_latest (w : World) (k cl : Int) (q i : Nat) (op : Option Addr) (np cp : Nat) (ok : Option Addr) (nk ck : Nat) (ow : Option Addr) (nw cw : Nat) (ov : Option Addr) (nv cv : Nat) (rs : List RV) (m : Msg)
    (h : IsM w k cl q i op np cp ok nk ck ow nw cw ov nv cv rs m) (hkr : 1 ≤ k ∧ k ≤ 8) (hcr : 0 ≤ cl ∧ cl ≤ 15) (hG : k = 3 ∧ valK m.keys = true ∧ layF m = txts (natss m.keys)) :
    Calls Tryz.prog 36 #[.agg #[.int .i64 k, .int .i64 cl, .int .u64 (q : Nat), .int .u64 (i : Nat), .slice op np cp, .slice ok nk ck, .slice ow nw cw, .slice ov nv cv]] w (TellsN w (body m)) := by
  have hq : q < 18446744073709551616 := by rw [h.q]; exact h.rng.req
  have hi : i < 18446744073709551616 := by rw [h.i]; exact h.rng.id
  obtain ⟨K, rfl⟩ : ∃ K : Nat, k = (K : Nat) := ⟨k.toNat, by omega⟩
  obtain ⟨C, rfl⟩ : ∃ C : Nat, cl = (C : Nat) := ⟨cl.toNat, by omega⟩
  have H : Hid (IsM w K C q i op np cp ok nk ck ow nw cw ov nv cv rs m) := h
  have hK8 : K ≤ 8 := by omega
  have hC15 : C ≤ 15 := by omega
  have hcK : ((K : Int) % 256) = (K : Int) := by omega
  have hcC : ((C : Int) % 256) = (C : Int) := by omega
  have HG : Hid _ := hG
  clear hG
  have b1 : (((K : Nat) : Int) == 1) = false := by have h0 := HG.out.1; simp; omega
  have b3 : (((K : Nat) : Int) == 3) = true := by have h0 := HG.out.1; simp; omega
  have b4 : (((K : Nat) : Int) == 4) = false := by have h0 := HG.out.1; simp; omega
  have b7 : (((K : Nat) : Int) == 7) = false := by have h0 := HG.out.1; simp; omega
  obtain ⟨L, hL⟩ : ∃ L, L = body m := ⟨_, rfl⟩
  rw [← hL]
  have HL : Hid (L = num 1 K ++ num 1 C ++ num 8 q ++ layF m) := by
    show _ = _
    rw [hL]; unfold body
    rw [← h.k, ← h.cl, ← h.q]
    simp
  have HI : Hid (i = m.id) := h.i
  clear h hL
  have k0 : Keeps no w (w.alloc (.cells #[.int .i64 (K : Nat), .int .i64 (C : Nat), .int .u64 (q : Nat), .int .u64 (i : Nat), .slice op np cp, .slice ok nk ck, .slice ow nw cw, .slice ov nv cv] 29)) := (Keeps.refl no w).alloc _
  have hB0 := blk_new w (.cells #[.int .i64 (K : Nat), .int .i64 (C : Nat), .int .u64 (q : Nat), .int .u64 (i : Nat), .slice op np cp, .slice ok nk ck, .slice ow nw cw, .slice ov nv cv] 29)
  obtain ⟨A, hA⟩ : ∃ A, A = w.heap.size := ⟨_, rfl⟩
  have HA : Hid (A = w.heap.size) := hA
  obtain ⟨W0, hW0⟩ : ∃ W, W = w.alloc (.cells #[.int .i64 (K : Nat), .int .i64 (C : Nat), .int .u64 (q : Nat), .int .u64 (i : Nat), .slice op np cp, .slice ok nk ck, .slice ow nw cw, .slice ov nv cv] 29) := ⟨_, rfl⟩
  have hL2 : Hid (Has W0 (some ⟨w.heap.size + 1, 0, none⟩) 2 2 (num 1 K ++ num 1 C) (W0.alloc (.cells #[.int .u8 (K : Nat), .int .u8 (C : Nat)] 5))) := by
    have := has_lit W0 (num 1 K ++ num 1 C) 2 (by simp [num_length]) (by simp [num_length])
    rw [← top_row K C (by omega) (by omega)] at this
    have e : W0.heap.size = w.heap.size + 1 := by rw [hW0]; simp
    rwa [e] at this
  have HB : Hid (W0.heap[w.heap.size]? = some (.cells #[.int .i64 (K : Nat), .int .i64 (C : Nat), .int .u64 (q : Nat), .int .u64 (i : Nat), .slice op np cp, .slice ok nk ck, .slice ow nw cw, .slice ov nv cv] 29 (0, 0))) := by rw [hW0]; exact hB0
  have HW0 : Hid (Keeps no w W0) := by rw [hW0]; exact k0
  clear hB0 k0
  go_enter Tryz.func36, Tryz.ntmps36
  go_wp2_with fail
  rw [← hW0]
  refine (num8_any _ q hq).mono ?_
  rintro e wa ⟨oa, na, ca, rfl, hna, hoa, hwa, ka⟩
  rw [← hA] at HB ⊢
  obtain ⟨B, hB⟩ : ∃ B, B = A + 1 := ⟨_, rfl⟩
  rw [← hA, ← hB] at hL2
  try rw [← hB]
  clear hA hW0 hB
  go_wp2_with (at_builtin; go_must (refine wpList_has rfl _ _ rfl rfl hL2.out rfl hna.out hoa (num_lt _ _) ka (by rw [hna.out, num_length]; omega) ?_); intro o3 c3 w3 h3; have H3 : Hid _ := h3; obtain ⟨x0, x1, x2, x3, x4, x5, x6, x7⟩ := cells8 (h3.kp.at HB.out (fun h => h)); clear h3)
  have h10 : Hid (2 + na = 10) := by show _ = _; rw [hna.out, num_length]
  rw [h10.out] at H3
  rw [h10.out]
  have HT : Hid (Txs m.keys → (txts (natss m.keys)).length = 4 + bodyLen (natss m.keys) ∧ bodyLen (natss m.keys) ≤ 67111936) := fun h => ⟨txts_length _, h.all⟩
  obtain ⟨g0, g6, g7⟩ := HG.out
  have G7 : Hid (layF m = txts (natss m.keys)) := g7
  have HTX := HT.out (valK_txs g6)
  have HX1 : Hid ((txts (natss m.keys)).length ≤ 67111940) := by show _ ≤ _; omega
  have G6 : Hid (valK m.keys = true) := g6
  clear g0 g6 g7 HTX
  refine (texts_any w3 ok nk ck m.keys H.out.nk (valK_txs G6.out) (H.out.kys.keepsN (HW0.out.trans H3.out.kp))).mono ?_
  rintro e wb ⟨ob, nb, cb, rfl, hnb, hob, hwb, kb⟩
  go_wp2_with (at_builtin; go_must (refine wpList_has rfl _ _ rfl rfl H3.out rfl hnb.out hob (btxts_lt _) kb (by have := HX1.out; rw [hnb.out]; omega) ?_); intro o4 c4 w4 h4; have H4 : Hid _ := h4; clear h4)
  go_ret
  refine ⟨_, _, _, rfl, ?_, ?_, H4.out.new.of_le HW0.out.size, HW0.out.trans H4.out.kp⟩
  · show _ = _; rw [HL.out, G7.out]; have := H4.out.n; simpa only [List.append_assoc] using this
  · rw [HL.out, G7.out]; have := H4.out.own; simpa only [List.append_assoc] using this
end Go.Proofs.YtjklpcamlppegaaGreat
/- The document's Body: one kind of messages. -/
namespace Go.Proofs.YtjklpcamlppegaaGreat
open Go.RowKit Go.Sort Orl Pk
set_option linter.unusedVariables false
set_option linter.unusedSimpArgs false

set_option maxRecDepth 20000 in
set_option maxHeartbeats 8000000 in
theorem Body_byid (w : World) (k cl : Int) (q i : Nat) (op : Option Addr) (np cp : Nat) (ok : Option Addr) (nk ck : Nat) (ow : Option Addr) (nw cw : Nat) (ov : Option Addr) (nv cv : Nat) (rs : List RV) (m : Msg)
    (h : IsM w k cl q i op np cp ok nk ck ow nw cw ov nv cv rs m) (hkr : 1 ≤ k ∧ k ≤ 8) (hcr : 0 ≤ cl ∧ cl ≤ 15) (hG : k = 4 ∧ mayW m.wants = true ∧ layF m = num 4 m.wants.length ++ layW m.wants) :
    Calls Tryz.prog 36 #[.agg #[.int .i64 k, .int .i64 cl, .int .u64 (q : Nat), .int .u64 (i : Nat), .slice op np cp, .slice ok nk ck, .slice ow nw cw, .slice ov nv cv]] w (TellsN w (body m)) := by
  have hq : q < 18446744073709551616 := by rw [h.q]; exact h.rng.req
  have hi : i < 18446744073709551616 := by rw [h.i]; exact h.rng.id
  obtain ⟨K, rfl⟩ : ∃ K : Nat, k = (K : Nat) := ⟨k.toNat, by omega⟩
  obtain ⟨C, rfl⟩ : ∃ C : Nat, cl = (C : Nat) := ⟨cl.toNat, by omega⟩
  have H : Hid (IsM w K C q i op np cp ok nk ck ow nw cw ov nv cv rs m) := h
  have hK8 : K ≤ 8 := by omega
  have hC15 : C ≤ 15 := by omega
  have hcK : ((K : Int) % 256) = (K : Int) := by omega
  have hcC : ((C : Int) % 256) = (C : Int) := by omega
  have HG : Hid _ := hG
  clear hG
  have b1 : (((K : Nat) : Int) == 1) = false := by have h0 := HG.out.1; simp; omega
  have b3 : (((K : Nat) : Int) == 3) = false := by have h0 := HG.out.1; simp; omega
  have b4 : (((K : Nat) : Int) == 4) = true := by have h0 := HG.out.1; simp; omega
  have b7 : (((K : Nat) : Int) == 7) = false := by have h0 := HG.out.1; simp; omega
  have lp : nw ≤ 1024 := by rw [h.nw]; exact (mayW_all HG.out.2.1).1
  obtain ⟨L, hL⟩ : ∃ L, L = body m := ⟨_, rfl⟩
  rw [← hL]
  have HL : Hid (L = num 1 K ++ num 1 C ++ num 8 q ++ layF m) := by
    show _ = _
    rw [hL]; unfold body
    rw [← h.k, ← h.cl, ← h.q]
    simp
  have HI : Hid (i = m.id) := h.i
  clear h hL
  have k0 : Keeps no w (w.alloc (.cells #[.int .i64 (K : Nat), .int .i64 (C : Nat), .int .u64 (q : Nat), .int .u64 (i : Nat), .slice op np cp, .slice ok nk ck, .slice ow nw cw, .slice ov nv cv] 29)) := (Keeps.refl no w).alloc _
  have hB0 := blk_new w (.cells #[.int .i64 (K : Nat), .int .i64 (C : Nat), .int .u64 (q : Nat), .int .u64 (i : Nat), .slice op np cp, .slice ok nk ck, .slice ow nw cw, .slice ov nv cv] 29)
  obtain ⟨A, hA⟩ : ∃ A, A = w.heap.size := ⟨_, rfl⟩
  have HA : Hid (A = w.heap.size) := hA
  obtain ⟨W0, hW0⟩ : ∃ W, W = w.alloc (.cells #[.int .i64 (K : Nat), .int .i64 (C : Nat), .int .u64 (q : Nat), .int .u64 (i : Nat), .slice op np cp, .slice ok nk ck, .slice ow nw cw, .slice ov nv cv] 29) := ⟨_, rfl⟩
  have hL2 : Hid (Has W0 (some ⟨w.heap.size + 1, 0, none⟩) 2 2 (num 1 K ++ num 1 C) (W0.alloc (.cells #[.int .u8 (K : Nat), .int .u8 (C : Nat)] 5))) := by
    have := has_lit W0 (num 1 K ++ num 1 C) 2 (by simp [num_length]) (by simp [num_length])
    rw [← top_row K C (by omega) (by omega)] at this
    have e : W0.heap.size = w.heap.size + 1 := by rw [hW0]; simp
    rwa [e] at this
  have HB : Hid (W0.heap[w.heap.size]? = some (.cells #[.int .i64 (K : Nat), .int .i64 (C : Nat), .int .u64 (q : Nat), .int .u64 (i : Nat), .slice op np cp, .slice ok nk ck, .slice ow nw cw, .slice ov nv cv] 29 (0, 0))) := by rw [hW0]; exact hB0
  have HW0 : Hid (Keeps no w W0) := by rw [hW0]; exact k0
  clear hB0 k0
  go_enter Tryz.func36, Tryz.ntmps36
  go_wp2_with fail
  rw [← hW0]
  refine (num8_any _ q hq).mono ?_
  rintro e wa ⟨oa, na, ca, rfl, hna, hoa, hwa, ka⟩
  rw [← hA] at HB ⊢
  obtain ⟨B, hB⟩ : ∃ B, B = A + 1 := ⟨_, rfl⟩
  rw [← hA, ← hB] at hL2
  try rw [← hB]
  clear hA hW0 hB
  go_wp2_with (at_builtin; go_must (refine wpList_has rfl _ _ rfl rfl hL2.out rfl hna.out hoa (num_lt _ _) ka (by rw [hna.out, num_length]; omega) ?_); intro o3 c3 w3 h3; have H3 : Hid _ := h3; obtain ⟨x0, x1, x2, x3, x4, x5, x6, x7⟩ := cells8 (h3.kp.at HB.out (fun h => h)); clear h3)
  have h10 : Hid (2 + na = 10) := by show _ = _; rw [hna.out, num_length]
  rw [h10.out] at H3
  rw [h10.out]
  have HT : Hid (Txs m.keys → (txts (natss m.keys)).length = 4 + bodyLen (natss m.keys) ∧ bodyLen (natss m.keys) ≤ 67111936) := fun h => ⟨txts_length _, h.all⟩
  obtain ⟨g0, g6, g7⟩ := HG.out
  have G7 : Hid (layF m = num 4 m.wants.length ++ layW m.wants) := g7
  have G6 : Hid (mayW m.wants = true) := g6
  clear g0 g6 g7
  refine (num4_any w3 nw (by omega)).mono ?_
  rintro e we ⟨oe, ne, ce, rfl, hne, hoe, hwe, ke⟩
  have ne4 : ne = 4 := by rw [hne.out, num_length]
  subst ne4
  go_wp2_with (at_builtin; go_must (refine wpList_has rfl _ _ rfl rfl H3.out rfl hne.out hoe (num_lt _ _) ke (by omega) ?_); intro o6 c6 w6 h6; have H6 : Hid _ := h6; obtain ⟨x0, x1, x2, x3, x4, x5, x6, x7⟩ := cells8 (h6.kp.at HB.out (fun h => h)); clear h6)
  have HP2 : Hid (∀ p ∈ m.wants, p.1.size ≤ 65535) := (mayW_all G6.out).2.2.1
  have HP3 : Hid (∀ p ∈ m.wants, p.2 < 18446744073709551616) := H.out.rng.wants
  obtain ⟨X6, hX6⟩ : ∃ X, X = num 1 K ++ num 1 C ++ num 8 q ++ num 4 nw := ⟨_, rfl⟩
  rw [← hX6] at H6
  have HX6 : Hid (X6 = num 1 K ++ num 1 C ++ num 8 q ++ num 4 nw) := hX6
  have hN6 : Hid (X6.length = 10 + 4) := by show _ = _; exact H6.out.n.symm
  clear hX6
  go_loopw [3, 5] (fun s j wr => ∃ t : Nat, ∃ oo mo co, t ≤ nw ∧ j = .int .i64 t ∧ s = .slice oo mo co ∧ Hid (Has W0 oo mo co (X6 ++ layW (m.wants.take t)) wr)) (fun _ j _ => nw - (intOf j).toNat)
  case atStart => exact ⟨0, _, _, _, by omega, rfl, rfl, by simpa [layW] using H6⟩
  case round =>
    obtain ⟨t, oo, mo, co, ht, rfl, rfl, HS⟩ := hrel
    clear x0 x1 x2 x3 x4 x5 x6 x7
    obtain ⟨x0, x1, x2, x3, x4, x5, x6, x7⟩ := cells8 (HS.out.kp.at HB.out (fun h => h))
    by_cases h2 : t < nw
    · have hta : t < m.wants.length := by rw [← H.out.nw]; exact h2
      obtain ⟨b1, off1, rfl, d1, d2⟩ := (H.out.wts.keepsN (HW0.out.trans HS.out.kp)).atW hta
      have hsz := HP2.out _ (getD_mem_lt w0' hta)
      have hid := HP3.out _ (getD_mem_lt w0' hta)
      have HSN : Hid (layW (m.wants.take (t + 1)) = layW (m.wants.take t) ++ txt (nats (m.wants.getD t w0').1) ++ num 8 (m.wants.getD t w0').2) := by
        show _ = _
        rw [take_succ_getD m.wants t w0' hta]; simp [layW, layW1]
      have hmo : mo ≤ 210000000 := by
        have h1 := HS.out.n
        have h2 := layW_le m.wants HP2.out t (by omega)
        have h3 := hN6.out
        have : t * 65547 ≤ 1024 * 65547 := Nat.mul_le_mul_right _ (by omega)
        rw [List.length_append] at h1
        omega
      have HTA : Hid (t < m.wants.length) := hta
      obtain ⟨s1, hs1⟩ : ∃ s, s = (m.wants.getD t w0').1 := ⟨_, rfl⟩
      obtain ⟨s2, hs2⟩ : ∃ s, s = (m.wants.getD t w0').2 := ⟨_, rfl⟩
      have HD2 : Hid (∀ w', Keeps no w w' → w'.cell? ⟨b1, off1 + t * 2 + 1, none⟩ = some (.int .u64 (s2 : Nat))) := fun w' hk => by rw [hs2]; exact ((H.out.wts.keepsN hk).atW' HTA.out).2
      rw [← hs1] at d1 hsz HSN
      rw [← hs2] at d2 hid HSN
      clear hs1 hs2 hta
      have hl1 : Hid ((txt (nats s1)).length = 4 + s1.size) := by show _ = _; rw [txt_length, nats_length]
      go_wp2_with fail
      refine (text_any wr s1 hsz).mono ?_
      rintro e wf ⟨of, nf, cf, rfl, hnf, hof, hwf, kf⟩
      have hnf2 : nf ≤ 65539 := by rw [hnf.out, hl1.out]; omega
      go_wp2_with (at_builtin; go_must (refine wpList_has rfl _ _ rfl rfl HS.out rfl hnf.out hof (txt_lt _) kf (by omega) ?_); intro og cg wg hg; have Hg : Hid _ := hg; clear hg; obtain ⟨x0, x1, x2, x3, x4, x5, x6, x7⟩ := cells8 (Hg.out.kp.at HB.out (fun h => h)); have e2 := HD2.out wg (HW0.out.trans Hg.out.kp))
      refine (num8_any wg s2 hid).mono ?_
      rintro e wh ⟨oh, nh, ch, rfl, hnh, hoh, hwh, kh⟩
      have hnh2 : nh ≤ 8 := by rw [hnh.out, num_length]; omega
      go_wp2_with (at_builtin; go_must (refine wpList_has rfl _ _ rfl rfl Hg.out rfl hnh.out hoh (num_lt _ _) kh (by omega) ?_); intro oj cj wj hj; have Hj : Hid _ := hj; clear hj)
      go_roundw
      case rel =>
        refine ⟨t + 1, oj, _, cj, by omega, by go_num, rfl, ?_⟩
        have := Hj.out
        show Has _ _ _ _ _ _
        rw [HSN.out]
        simpa only [List.append_assoc] using this
      case measure => simp [intOf]; omega
    · have htn : t = nw := by omega
      go_wp2
      go_ret
      have h9 := HS.out
      rw [htn, H.out.nw, List.take_length] at h9
      refine ⟨_, _, _, rfl, ?_, ?_, h9.new.of_le HW0.out.size, HW0.out.trans h9.kp⟩
      · show _ = _; rw [HL.out, G7.out, ← H.out.nw]; have := h9.n; rw [HX6.out] at this; simpa only [List.append_assoc] using this
      · rw [HL.out, G7.out, ← H.out.nw]; have := h9.own; rw [HX6.out] at this; simpa only [List.append_assoc] using this
end Go.Proofs.YtjklpcamlppegaaGreat
/- The document's Body: one kind of messages. -/
namespace Go.Proofs.YtjklpcamlppegaaGreat
open Go.RowKit Go.Sort Orl Pk
set_option linter.unusedVariables false
set_option linter.unusedSimpArgs false

set_option maxRecDepth 20000 in
set_option maxHeartbeats 8000000 in
theorem Body_vers (w : World) (k cl : Int) (q i : Nat) (op : Option Addr) (np cp : Nat) (ok : Option Addr) (nk ck : Nat) (ow : Option Addr) (nw cw : Nat) (ov : Option Addr) (nv cv : Nat) (rs : List RV) (m : Msg)
    (h : IsM w k cl q i op np cp ok nk ck ow nw cw ov nv cv rs m) (hkr : 1 ≤ k ∧ k ≤ 8) (hcr : 0 ≤ cl ∧ cl ≤ 15) (hG : k = 7 ∧ (m.vers.length = 1 ∧ mayV (m.vers.getD 0 v0) = true) ∧ layF m = layV (m.vers.getD 0 v0)) :
    Calls Tryz.prog 36 #[.agg #[.int .i64 k, .int .i64 cl, .int .u64 (q : Nat), .int .u64 (i : Nat), .slice op np cp, .slice ok nk ck, .slice ow nw cw, .slice ov nv cv]] w (TellsN w (body m)) := by
  have hq : q < 18446744073709551616 := by rw [h.q]; exact h.rng.req
  have hi : i < 18446744073709551616 := by rw [h.i]; exact h.rng.id
  obtain ⟨K, rfl⟩ : ∃ K : Nat, k = (K : Nat) := ⟨k.toNat, by omega⟩
  obtain ⟨C, rfl⟩ : ∃ C : Nat, cl = (C : Nat) := ⟨cl.toNat, by omega⟩
  have H : Hid (IsM w K C q i op np cp ok nk ck ow nw cw ov nv cv rs m) := h
  have hK8 : K ≤ 8 := by omega
  have hC15 : C ≤ 15 := by omega
  have hcK : ((K : Int) % 256) = (K : Int) := by omega
  have hcC : ((C : Int) % 256) = (C : Int) := by omega
  have HG : Hid _ := hG
  clear hG
  have b1 : (((K : Nat) : Int) == 1) = false := by have h0 := HG.out.1; simp; omega
  have b3 : (((K : Nat) : Int) == 3) = false := by have h0 := HG.out.1; simp; omega
  have b4 : (((K : Nat) : Int) == 4) = false := by have h0 := HG.out.1; simp; omega
  have b7 : (((K : Nat) : Int) == 7) = true := by have h0 := HG.out.1; simp; omega
  obtain ⟨g0, g6, g7⟩ := HG.out
  have G7 : Hid (layF m = layV (m.vers.getD 0 v0)) := g7
  have G6 : Hid (m.vers.length = 1 ∧ mayV (m.vers.getD 0 v0) = true) := g6
  have hl : m.vers.length = 1 := g6.1
  have hrl : rs.length = 1 := by rw [h.vrs.len]; exact hl
  have hnv : nv = 1 := by rw [h.nv]; exact hl
  obtain ⟨b0, off, rfl, _⟩ := h.vrs.sl.atV (j := 0) (by omega)
  obtain ⟨x, hx⟩ : ∃ x, x = rs.getD 0 r0 := ⟨_, rfl⟩
  have hvo := h.vrs.each 0 (by omega)
  rw [← hx] at hvo
  obtain ⟨key, id, val, o, n, c⟩ := x
  have HD : Hid (∀ w', Keeps no w w' → w'.cell? ⟨b0, off, none⟩ = some (.string key) ∧ w'.cell? ⟨b0, off + 1, none⟩ = some (.int .u64 (id : Nat)) ∧ w'.cell? ⟨b0, off + 2, none⟩ = some (.string val) ∧ w'.cell? ⟨b0, off + 3, none⟩ = some (.slice o n c)) := by
    intro w' hk
    obtain ⟨b', off', e, d0, d1, d2, d3⟩ := (h.vrs.sl.keepsN hk).atV (j := 0) (by omega)
    cases e
    rw [← hx] at d0 d1 d2 d3
    simpa only [Nat.zero_mul, Nat.add_zero] using And.intro d0 (And.intro d1 (And.intro d2 d3))
  have hid : id = (m.vers.getD 0 v0).id := hvo.id
  have hid2 : id < 18446744073709551616 := by rw [hid]; exact h.rng.vers _ (getD_mem_lt v0 (by omega))
  have HVO : Hid (VerOf w ⟨key, id, val, o, n, c⟩ (m.vers.getD 0 v0)) := hvo
  have HVL : Hid ((layV (m.vers.getD 0 v0)).length ≤ 70000000) := layV_all (mayV_ok g6.2)
  clear g0 g6 g7 hx hl hrl hvo hid
  subst hnv
  obtain ⟨L, hL⟩ : ∃ L, L = body m := ⟨_, rfl⟩
  rw [← hL]
  have HL : Hid (L = num 1 K ++ num 1 C ++ num 8 q ++ layF m) := by
    show _ = _
    rw [hL]; unfold body
    rw [← h.k, ← h.cl, ← h.q]
    simp
  have HI : Hid (i = m.id) := h.i
  clear h hL
  have k0 : Keeps no w (w.alloc (.cells #[.int .i64 (K : Nat), .int .i64 (C : Nat), .int .u64 (q : Nat), .int .u64 (i : Nat), .slice op np cp, .slice ok nk ck, .slice ow nw cw, .slice (some ⟨b0, off, none⟩) 1 cv] 29)) := (Keeps.refl no w).alloc _
  have hB0 := blk_new w (.cells #[.int .i64 (K : Nat), .int .i64 (C : Nat), .int .u64 (q : Nat), .int .u64 (i : Nat), .slice op np cp, .slice ok nk ck, .slice ow nw cw, .slice (some ⟨b0, off, none⟩) 1 cv] 29)
  obtain ⟨A, hA⟩ : ∃ A, A = w.heap.size := ⟨_, rfl⟩
  have HA : Hid (A = w.heap.size) := hA
  obtain ⟨W0, hW0⟩ : ∃ W, W = w.alloc (.cells #[.int .i64 (K : Nat), .int .i64 (C : Nat), .int .u64 (q : Nat), .int .u64 (i : Nat), .slice op np cp, .slice ok nk ck, .slice ow nw cw, .slice (some ⟨b0, off, none⟩) 1 cv] 29) := ⟨_, rfl⟩
  have hL2 : Hid (Has W0 (some ⟨w.heap.size + 1, 0, none⟩) 2 2 (num 1 K ++ num 1 C) (W0.alloc (.cells #[.int .u8 (K : Nat), .int .u8 (C : Nat)] 5))) := by
    have := has_lit W0 (num 1 K ++ num 1 C) 2 (by simp [num_length]) (by simp [num_length])
    rw [← top_row K C (by omega) (by omega)] at this
    have e : W0.heap.size = w.heap.size + 1 := by rw [hW0]; simp
    rwa [e] at this
  have HB : Hid (W0.heap[w.heap.size]? = some (.cells #[.int .i64 (K : Nat), .int .i64 (C : Nat), .int .u64 (q : Nat), .int .u64 (i : Nat), .slice op np cp, .slice ok nk ck, .slice ow nw cw, .slice (some ⟨b0, off, none⟩) 1 cv] 29 (0, 0))) := by rw [hW0]; exact hB0
  have HW0 : Hid (Keeps no w W0) := by rw [hW0]; exact k0
  clear hB0 k0
  go_enter Tryz.func36, Tryz.ntmps36
  go_wp2_with fail
  rw [← hW0]
  refine (num8_any _ q hq).mono ?_
  rintro e wa ⟨oa, na, ca, rfl, hna, hoa, hwa, ka⟩
  rw [← hA] at HB ⊢
  obtain ⟨B, hB⟩ : ∃ B, B = A + 1 := ⟨_, rfl⟩
  rw [← hA, ← hB] at hL2
  try rw [← hB]
  clear hA hW0 hB
  go_wp2_with (at_builtin; go_must (refine wpList_has rfl _ _ rfl rfl hL2.out rfl hna.out hoa (num_lt _ _) ka (by rw [hna.out, num_length]; omega) ?_); intro o3 c3 w3 h3; have H3 : Hid _ := h3; obtain ⟨d0, d1, d2, d3⟩ := HD.out w3 (HW0.out.trans h3.kp); obtain ⟨x0, x1, x2, x3, x4, x5, x6, x7⟩ := cells8 (h3.kp.at HB.out (fun h => h)); clear h3)
  have h10 : Hid (2 + na = 10) := by show _ = _; rw [hna.out, num_length]
  rw [h10.out] at H3
  rw [h10.out]
  have HT : Hid (Txs m.keys → (txts (natss m.keys)).length = 4 + bodyLen (natss m.keys) ∧ bodyLen (natss m.keys) ≤ 67111936) := fun h => ⟨txts_length _, h.all⟩
  refine (version_any w3 (m.vers.getD 0 v0) key id val o n c (HVO.out.keepsN (HW0.out.trans H3.out.kp)) (mayV_ok G6.out.2) hid2).mono ?_
  rintro e wb ⟨ob, nb, cb, rfl, hnb, hob, hwb, kb⟩
  go_wp2_with (at_builtin; go_must (refine wpList_has rfl _ _ rfl rfl H3.out rfl hnb.out hob (layV_lt _) kb (by have := HVL.out; rw [hnb.out]; omega) ?_); intro o4 c4 w4 h4; have H4 : Hid _ := h4; clear h4)
  go_ret
  refine ⟨_, _, _, rfl, ?_, ?_, H4.out.new.of_le HW0.out.size, HW0.out.trans H4.out.kp⟩
  · show _ = _; rw [HL.out, G7.out]; have := H4.out.n; simpa only [List.append_assoc] using this
  · rw [HL.out, G7.out]; have := H4.out.own; simpa only [List.append_assoc] using this
end Go.Proofs.YtjklpcamlppegaaGreat
