import Derived.Test.YtoijeipoblnliaaGreatDoorYJ1
/- BootTorn. -/
namespace Go.Proofs.YtoijeipoblnliaaGreatDoor
open Go.RowKit Go.Maps Go.Sort Orl Pk
set_option linter.unusedVariables false
set_option linter.unusedSimpArgs false

theorem wrap_sm8 (y : Nat) (h : y ≤ 255) : IntKind.u8.wrap (IntKind.i64.wrap (y : Int)) = (y : Int) := by
  have h1 : IntKind.i64.wrap (y : Int) = (y : Int) := by
    have e : (y : Int) % 18446744073709551616 = y := by omega
    simp [IntKind.wrap, IntKind.bits, IntKind.signed, e]
    omega
  have e : (y : Int) % 256 = y := by omega
  rw [h1]
  simp [IntKind.wrap, IntKind.bits, IntKind.signed, e]
set_option maxRecDepth 10000 in
set_option maxHeartbeats 1600000 in
theorem torn_any (w : World) (ht : Tabs w) (v : WV) (sl ll : List RW) (h : WIn w v sl ll) (at_ mk : Int) (hat : I64 at_) (hmk : I64 mk) (cut : Bool) :
    Calls Tryz.prog 4 #[v.val, .int .i64 at_, .int .i64 mk, .bool cut] w fun e w' => e = .returned (.bool true) ∧ Keeps no w w' := by
  have H : Hid (WIn w v sl ll ∧ Tabs w) := ⟨h, ht⟩
  have HA : Hid (I64 at_ ∧ I64 mk) := ⟨hat, hmk⟩
  clear h ht hat hmk
  unfold WV.val
  go_enter Tryz.func4, Tryz.ntmps4
  go_wp2_with fail
  refine (known_any _ (H.out.2.keepsN ((Keeps.refl no w).alloc _))).mono ?_
  rintro e w1 ⟨rfl, hk1⟩
  have HB : Hid (w1.heap[w.heap.size]? = some (boxV v) ∧ Keeps no w w1) := ⟨hk1.at (blk_new w _) id, ((Keeps.refl no w).alloc _).trans hk1⟩
  clear hk1
  have b0 := cell_of_blk HB.out.1 0
  have b1 := cell_of_blk HB.out.1 1
  have b2 := cell_of_blk HB.out.1 2
  have b3 := cell_of_blk HB.out.1 3
  have b4 := cell_of_blk HB.out.1 4
  have hsm := small_any w1 v sl ll (H.out.1.keepsN HB.out.2)
  unfold WV.val at hsm
  simp only [List.getElem?_toArray, List.getElem?_cons_zero, List.getElem?_cons_succ] at b0 b1 b2 b3 b4
  have HS : Hid (WIn w (smV v) (sl.take 30) (ll.take 30) ∧ (sl.take 30).length ≤ 30 ∧ (ll.take 30).length ≤ 30 ∧ ∃ G R : Nat, (smV v).gen = G ∧ (smV v).oth = R ∧ R ≤ 8) := ⟨H.out.1.small, by rw [List.length_take]; omega, by rw [List.length_take]; omega, (max v.gen 0).toNat, rst v.oth 8, by show max v.gen 0 = _; omega, rfl, rst_le _ _⟩
  generalize smV v = V2 at HS hsm
  obtain ⟨g, so, sn, sc, lo, ln, lc, ta, vo⟩ := v
  simp only at b0 b1 b2 b3 b4 hsm
  go_wp2_with fail
  refine hsm.mono ?_
  rintro e w2 ⟨rfl, hk2⟩
  clear hsm b0 b1 b2 b3 b4
  have HB2 : Hid (w2.heap[w.heap.size]? = some (boxV ⟨g, so, sn, sc, lo, ln, lc, ta, vo⟩) ∧ Keeps no w w2) := ⟨hk2.at HB.out.1 id, HB.out.2.trans hk2⟩
  have HT : Hid (Tabs w) := H.out.2
  clear hk2 HB H
  generalize sl.take 30 = sl2 at HS
  generalize ll.take 30 = ll2 at HS
  obtain ⟨g2, so2, sn2, sc2, lo2, ln2, lc2, ta2, vo2⟩ := V2
  obtain ⟨G, R, hG, hR, hR8⟩ := HS.out.2.2.2
  simp only at hG hR ⊢
  subst hG hR
  have hbs := box_store HB2.out.1 HB2.out.2 ⟨(G : Nat), so2, sn2, sc2, lo2, ln2, lc2, ta2, (R : Nat)⟩
  have HG : Hid ((G : Int) ≤ 9223372036854775807 ∧ R ≤ 8) := ⟨HS.out.1.gen.2, hR8⟩
  clear hR8
  go_upto_region 4 with (refine wpList_store_row (by rfl) _ _ _ (by rfl) w.heap.size _ (by rfl) (by rfl) 27 _ HB2.out.1 (wv_size _ _ _ _ _) (by rfl) (by simp [Value.oneCell']) ?_)
  simp only at hbs
  simp only [Act.put]
  generalize w2.setRow w.heap.size _ = w3 at hbs ⊢
  have HB3 : Hid (w3.heap[w.heap.size]? = some (boxV ⟨(G : Nat), so2, sn2, sc2, lo2, ln2, lc2, ta2, (R : Nat)⟩) ∧ Keeps no w w3) := hbs
  clear hbs HB2
  have b0 := cell_of_blk HB3.out.1 0
  simp only [List.getElem?_toArray, List.getElem?_cons_zero, List.getElem?_cons_succ] at b0
  have f0 := frozen_of_blk HB3.out.1 0
  have hbo := box_gen HB3.out.1 HB3.out.2 (max (G : Int) 2)
  have hG2 : Hid (∃ G2 : Nat, max (G : Int) 2 = G2 ∧ 2 ≤ G2 ∧ (G2 : Int) ≤ 9223372036854775807) := ⟨max G 2, by omega, by omega, by have := HG.out.1; omega⟩
  go_upto_region 5 with fail
  generalize w3.setCell _ _ = U at hbo ⊢
  have HU : Hid (U.heap[w.heap.size]? = some (boxV ⟨max (G : Int) 2, so2, sn2, sc2, lo2, ln2, lc2, ta2, (R : Nat)⟩) ∧ Keeps no w U) := hbo
  clear hbo f0 b0 HB3
  obtain ⟨G2, hG2e, hG22, hG2m⟩ := hG2.out
  rw [hG2e] at HU
  clear hG2 hG2e
  have c0 := cell_of_blk HU.out.1 0
  have c1 := cell_of_blk HU.out.1 1
  have c2 := cell_of_blk HU.out.1 2
  have c3 := cell_of_blk HU.out.1 3
  have c4 := cell_of_blk HU.out.1 4
  simp only [List.getElem?_toArray, List.getElem?_cons_zero, List.getElem?_cons_succ] at c0 c1 c2 c3 c4
  have HTU : Hid (Tabs U) := HT.out.keepsN HU.out.2
  have hW := HS.out.1.keepsN HU.out.2
  have hla := laid_any U HTU.out ⟨(G2 : Nat), so2, sn2, sc2, lo2, ln2, lc2, ta2, (R : Nat)⟩ sl2 ll2 G2 R ⟨⟨by show _ ≤ (G2 : Int); omega, hG2m⟩, hW.tail, hW.oth, hW.sn, hW.ln, hW.s, hW.l, hW.sok, hW.lok, hW.slt, hW.llt⟩ rfl HS.out.2.1 HS.out.2.2.1 rfl HG.out.2 5 (by decide)
  unfold WV.val at hla
  simp only at hla
  clear hW
  go_wp2_with fail
  refine hla.mono ?_
  rintro e w5 ⟨p, q, rfl, HL⟩
  clear hla c0 c1 c2 c3 c4
  obtain ⟨F, b, s0, hd5, hsn, hbl⟩ := laid_sn HL.out HS.out.2.2.1 HG.out.2 hG22
  have HD5 : Hid (Dn U w5 p F s0) := hd5
  have HSn : Hid (Sn b s0 ∧ b.length ≤ 8000000000 ∧ 5 ≤ b.length) := ⟨hsn, hbl, by have := sn_len5 (nts_lt b) hsn.ok; rw [nts_length] at this; exact this⟩
  have HKU : Hid (Keeps no w U) := HU.out.2
  clear hd5 hsn hbl HL HU HS hG22 hG2m
  have hrd := dn_read snapN HD5.out HSn.out.1.on.tick (b := b) (er := 0) (by unfold Dk.readB; rw [HSn.out.1.on.off]; show (match Dk.find snapB s0.fs with | none => [] | some f => f.bs) = b; rw [HSn.out.1.sn]; rfl) (by unfold Dk.readE; rw [HSn.out.1.on.off]; show (match Dk.find snapB s0.fs with | none => (61 : Int) | some _ => 0) = 0; rw [HSn.out.1.sn]) (by decide) (by have := HSn.out.2.1; omega)
  go_wp2_with fail
  refine hrd.mono ?_
  rintro e w6 ⟨o8, c8, m8, rfl, hm8, ho8, hnw8, hd8, hk8⟩
  clear hrd
  have H6 : Hid (Own BU w6 o8 c8 b ∧ Dn U w6 p F s0 ∧ (∀ k, inO o8 k → ¬ F k)) := ⟨ho8, hd8, fun k hi hf => by have := hnw8 k hi; have := HD5.out.is.lt k hf; omega⟩
  have HM8 : Hid (m8 = b.length) := hm8.out
  have HN8 : Hid (∀ k, inO o8 k → U.heap.size ≤ k) := fun k hk => Nat.le_trans HD5.out.kept.size (hnw8 k hk)
  clear ho8 hnw8 hd8 hk8 hm8 HD5
  have hls := list_any w6 p F s0 H6.out.2.1.is
  rw [HSn.out.1.on.tick, show Dk.listE s0 = 0 by unfold Dk.listE; rw [HSn.out.1.on.off]; rfl, show Dk.listN s0 = Dk.names s0.fs by unfold Dk.listN; rw [HSn.out.1.on.off]; rfl] at hls
  go_wp2_with fail
  refine hls.mono ?_
  rintro e w7 ⟨o9, c9, m9, rfl, hm9, ho9, hnw9, hi9, hk9⟩
  clear hls
  have H7 : Hid (Own BU w7 o8 c8 b ∧ Dn U w7 p F s0 ∧ Own TE w7 o9 c9 ((Dk.names s0.fs).map mkT) ∧ (∀ k, inO o9 k → ¬ F k ∧ ¬ inO o8 k) ∧ m9 = ((Dk.names s0.fs).map mkT).length) := ⟨H6.out.1.keeps hk9 H6.out.2.2, H6.out.2.1.same hi9 hk9, ho9, fun k hk => ⟨fun hf => by have := hnw9 k hk; have := H6.out.2.1.is.lt k hf; omega, fun hf => by have := hnw9 k hk; have := H6.out.1.lt k hf; omega⟩, by rw [List.length_map]; exact hm9.out⟩
  have HF8 : Hid (∀ k, inO o8 k → ¬ F k) := H6.out.2.2
  clear ho9 hnw9 hi9 hk9 hm9 H6
  have hm5 : ¬ (m8 : Int) < 5 := by have := HM8.out; have := HSn.out.2.2; omega
  have hm8 : (m8 : Int) ≤ 8000000000 := by have := HM8.out; have := HSn.out.2.1; omega
  have hdl := delete_any w7 p F s0 snapN H7.out.2.1.is (by decide)
  rw [show Dk.counted s0 (Dk.deleteOn snapN.data.toList) = (dlS s0, 0) from HSn.out.1.delE] at hdl
  go_wp2_with fail
  refine hdl.mono ?_
  rintro e w8 ⟨rfl, hi8, hk8⟩
  clear hdl
  have H8 : Hid (Own BU w8 o8 c8 b ∧ Dn U w8 p F (dlS s0) ∧ Own TE w8 o9 c9 ((Dk.names s0.fs).map mkT)) := ⟨H7.out.1.keeps hk8 HF8.out, H7.out.2.1.same hi8 hk8, H7.out.2.2.1.keeps hk8 (fun k hk => (H7.out.2.2.2.1 k hk).1)⟩
  have H9 : Hid ((∀ k, inO o9 k → ¬ F k ∧ ¬ inO o8 k) ∧ m9 = ((Dk.names s0.fs).map mkT).length) := ⟨H7.out.2.2.2.1, H7.out.2.2.2.2⟩
  clear hi8 hk8 H7
  obtain ⟨m, hm⟩ : ∃ m : Nat, m8 = m + 1 := ⟨m8 - 1, by omega⟩
  have hre := rest_big at_ m w8 HA.out.1 (by omega)
  have em : (m8 : Int) - 1 = (m : Int) := by omega
  have hrl := rst_le at_ m
  obtain ⟨K, hK⟩ : ∃ K, K = rst at_ m := ⟨_, rfl⟩
  rw [← hK] at hre hrl
  have hK1 : (K : Int) < m8 := by omega
  clear hK hm hrl
  go_wp2_with fail
  refine hre.mono ?_
  rintro e w1x ⟨rfl, hw1x⟩
  subst w1x
  clear hre
  have hKb : Hid (K < b.length) := by show _ < _; have := HM8.out; omega
  go_upto_if 70 with fail
  go_cut [12] from 71 to 85 (fun t12 X => ∃ (m' : Nat) (b' : List UInt8), t12 = .slice o8 m' c8 ∧ Hid (Sl BU X o8 c8 b' ∧ m' = b'.length ∧ snOk 5 (nts b') = false ∧ b'.length ≤ 8000000000 ∧ Keeps (inO o8) w8 X))
  case first =>
    cases cut with
    | true =>
      have hcut := cutO o8 m8 c8 K (by have := H8.out.1.cap.1; have := hKb.out; omega) H8.out.1.cap.2
      go_wp2_with fail
      go_meet
      case rel => exact ⟨K, b.take K, rfl, ⟨H8.out.1.sl.row.take okU K, by rw [List.length_take]; have := H8.out.1.cap.1; omega, H8.out.1.cap.2⟩, by rw [List.length_take]; have := hKb.out; omega, short_bad HSn.out.1.ok hKb.out, by rw [List.length_take]; have := HSn.out.2.1; omega, Keeps.refl _ _⟩
    | false =>
      have hre2 := fun X => rest_any mk 254 X HA.out.2 (by omega)
      change ∀ X, Calls Tryz.prog 17 #[.int .i64 mk, .int .i64 254] X _ at hre2
      have hrl2 := rst_le mk 254
      obtain ⟨D, hD⟩ : ∃ D, D = rst mk 254 := ⟨_, rfl⟩
      rw [← hD] at hre2 hrl2
      clear hD
      obtain ⟨x, hx⟩ : ∃ x : Nat, x = (b.getD K 0).toNat := ⟨_, rfl⟩
      have hx256 : x < 256 := by rw [hx]; exact UInt8.toNat_lt _
      have hxl : x ^^^ (1 + D) < 256 := xor_lt8 hx256 (by omega)
      have hbad := turn_bad HSn.out.1.ok hKb.out (d := 1 + D) (by omega) (by omega)
      rw [← hx] at hbad
      obtain ⟨gb, rfl, hfz, hcell, hown, hkeep⟩ := (H8.out.1.keepsN (w' := w8.drew) ((Keeps.refl no w8).drew)).setU K hKb.out (UInt8.ofNat (x ^^^ (1 + D)))
      have ebv : bv (UInt8.ofNat (x ^^^ (1 + D))) = .int .u8 ((x ^^^ (1 + D) : Nat) : Int) := by
        unfold bv
        rw [UInt8.toNat_ofNat', Nat.mod_eq_of_lt (by simpa using hxl)]
      have ebc : bv (b.getD K 0) = .int .u8 ((x : Nat) : Int) := by unfold bv; rw [← hx]
      rw [ebv] at hown hkeep
      rw [ebc] at hcell
      have HO : Hid (Own BU (w8.drew.setCell ⟨gb, K, none⟩ (.int .u8 ((x ^^^ (1 + D) : Nat) : Int))) (some ⟨gb, 0, none⟩) c8 (b.set K (UInt8.ofNat (x ^^^ (1 + D)))) ∧ Keeps (inO (some ⟨gb, 0, none⟩)) w8.drew (w8.drew.setCell ⟨gb, K, none⟩ (.int .u8 ((x ^^^ (1 + D) : Nat) : Int))) ∧ snOk 5 (nts (b.set K (UInt8.ofNat (x ^^^ (1 + D))))) = false ∧ Keeps no w8 w8.drew) := ⟨hown, hkeep, hbad, (Keeps.refl no w8).drew⟩
      have HXV : Hid (bits BinOp.xor IntKind.u8 (x : Int) (IntKind.u8.wrap (IntKind.i64.wrap ((1 : Int) + D))) = ((x ^^^ (1 + D) : Nat) : Int)) := by
        have h1 := u8_xor_nat x (1 + D) hx256 (by omega)
        have h2 : IntKind.u8.wrap (IntKind.i64.wrap ((1 : Int) + D)) = ((1 + D : Nat) : Int) := by
          rw [show (1 : Int) + D = ((1 + D : Nat) : Int) by omega]
          exact wrap_sm8 (1 + D) (by omega)
        show _ = _
        rw [h2]
        exact h1
      have hD254 : (D : Int) ≤ 254 := by omega
      clear hx hx256 hxl hbad ebv ebc hown hkeep hrl2
      go_upto_region 15 with fail
      refine wp_region_held_drew (S := (fun _ => True)) (by kernel_rfl) ?_ (fun hHeld => ?_)
      · trivial
      refine wpAnyH_take (i := 0) (v := ?_) (by simp only [List.getElem?_toArray, List.getElem?_cons_succ, List.getElem?_cons_zero]; rfl) (by kernel_rfl) (by kernel_rfl) (by kernel_rfl) (by exact fun _ _ _ h => h) (Or.inl ⟨by rfl, ?_⟩) (by assumption) ?_
      rotate_left
      · (intro _ hSw; (try dsimp only at hSw); go_simp; (try with_reducible rfl))
      try simp only [Act.put, List.setIfInBounds_toArray, List.set_cons_zero, List.set_cons_succ]
      refine wpAnyH_take (i := 1) (v := ?_) (by simp only [List.getElem?_toArray, List.getElem?_cons_succ, List.getElem?_cons_zero]; rfl) (by kernel_rfl) (by kernel_rfl) (by kernel_rfl) (by exact fun _ _ _ h => h) (Or.inl ⟨by rfl, ?_⟩) (by assumption) ?_
      rotate_left
      · (intro _ hSw; (try dsimp only at hSw); go_simp; (try with_reducible rfl))
      try simp only [Act.put, List.setIfInBounds_toArray, List.set_cons_zero, List.set_cons_succ]
      refine wpAnyH_take (i := 2) (v := ?_) (by simp only [List.getElem?_toArray, List.getElem?_cons_succ, List.getElem?_cons_zero]; rfl) (by kernel_rfl) (by kernel_rfl) (by kernel_rfl) (by exact fun _ _ _ h => h) (Or.inl ⟨by rfl, ?_⟩) (by assumption) ?_
      rotate_left
      · (intro _ hSw; (try dsimp only at hSw); go_simp; (try with_reducible rfl))
      try simp only [Act.put, List.setIfInBounds_toArray, List.set_cons_zero, List.set_cons_succ]
      refine wpAnyH_take (i := 3) (v := ?_) (by simp only [List.getElem?_toArray, List.getElem?_cons_succ, List.getElem?_cons_zero]; rfl) (by kernel_rfl) (by kernel_rfl) (by kernel_rfl) (by exact fun _ _ _ h => h) (Or.inl ⟨by rfl, ?_⟩) (by assumption) ?_
      rotate_left
      · (intro _ hSw; (try dsimp only at hSw); go_simp; (try with_reducible rfl))
      try simp only [Act.put, List.setIfInBounds_toArray, List.set_cons_zero, List.set_cons_succ]
      refine wpAnyH_take (i := 4) (v := ?_) (by simp only [List.getElem?_toArray, List.getElem?_cons_succ, List.getElem?_cons_zero]; rfl) (by kernel_rfl) (by kernel_rfl) (by kernel_rfl) (by exact fun _ _ _ h => h) (Or.inl ⟨by rfl, ?_⟩) (by assumption) ?_
      rotate_left
      · (intro _ hSw; (try dsimp only at hSw); go_simp; (try with_reducible rfl))
      try simp only [Act.put, List.setIfInBounds_toArray, List.set_cons_zero, List.set_cons_succ]
      refine wpAnyH_take (i := 6) (v := ?_) (by simp only [List.getElem?_toArray, List.getElem?_cons_succ, List.getElem?_cons_zero]; rfl) (by kernel_rfl) (by kernel_rfl) (by kernel_rfl) (by exact fun _ _ _ h => h) (Or.inl ⟨by rfl, ?_⟩) (by assumption) ?_
      rotate_left
      · (intro _ hSw; (try dsimp only at hSw); go_simp; (try with_reducible rfl))
      try simp only [Act.put, List.setIfInBounds_toArray, List.set_cons_zero, List.set_cons_succ]
      generalize w8.drew = z0 at HO hcell hfz ⊢
      refine wpAnyH_ready (rs := [5, 7]) (by kernel_rfl) (by simp) ?_
      refine AllReadyH.cons (by simp only [List.getElem?_toArray, List.getElem?_cons_succ, List.getElem?_cons_zero]; rfl) (fun Kq hKq => ?_) (AllReadyH.cons (by simp only [List.getElem?_toArray, List.getElem?_cons_succ, List.getElem?_cons_zero]; rfl) (fun Kq hKq => ?_) AllReadyH.nil)
      · go_simp
        refine hKq.out _ _ ?_ (fun hHeldN => ?_)
        · trivial
        clear hKq Kq hHeld
        have hHeld := hHeldN
        clear hHeldN
        refine wpAnyH_ready (rs := [7]) (by kernel_rfl) (by simp) ?_
        refine AllReadyH.cons (by simp only [List.getElem?_toArray, List.getElem?_cons_succ, List.getElem?_cons_zero]; rfl) (fun Kq hKq => ?_) AllReadyH.nil
        (go_simp; refine (hre2 _).mono ?_; rintro e w1x ⟨rfl, hw1x⟩; subst w1x)
        refine hKq.out _ _ ?_ (fun hHeldN => ?_)
        · trivial
        clear hKq Kq hHeld
        have hHeld := hHeldN
        clear hHeldN
        refine wpAnyH_take (i := 8) (v := ?_) (by simp only [List.getElem?_toArray, List.getElem?_cons_succ, List.getElem?_cons_zero]; rfl) (by kernel_rfl) (by kernel_rfl) (by kernel_rfl) (by exact fun _ _ _ h => h) (Or.inl ⟨by rfl, ?_⟩) (by assumption) ?_
        rotate_left
        · (intro _ hSw; (try dsimp only at hSw); go_simp; (try with_reducible rfl))
        try simp only [Act.put, List.setIfInBounds_toArray, List.set_cons_zero, List.set_cons_succ]
        refine wpAnyH_take (i := 9) (v := ?_) (by simp only [List.getElem?_toArray, List.getElem?_cons_succ, List.getElem?_cons_zero]; rfl) (by kernel_rfl) (by kernel_rfl) (by kernel_rfl) (by exact fun _ _ _ h => h) (Or.inl ⟨by rfl, ?_⟩) (by assumption) ?_
        rotate_left
        · (intro _ hSw; (try dsimp only at hSw); go_simp; (try with_reducible rfl))
        try simp only [Act.put, List.setIfInBounds_toArray, List.set_cons_zero, List.set_cons_succ]
        refine wpAnyH_take (i := 10) (v := ?_) (by simp only [List.getElem?_toArray, List.getElem?_cons_succ, List.getElem?_cons_zero]; rfl) (by kernel_rfl) (by kernel_rfl) (by kernel_rfl) (by exact fun _ _ _ h => h) (Or.inl ⟨by rfl, ?_⟩) (by assumption) ?_
        rotate_left
        · (intro _ hSw; (try dsimp only at hSw); go_simp; (try with_reducible rfl))
        try simp only [Act.put, List.setIfInBounds_toArray, List.set_cons_zero, List.set_cons_succ]
        refine wpAnyH_take (i := 11) (v := ?_) (by simp only [List.getElem?_toArray, List.getElem?_cons_succ, List.getElem?_cons_zero]; rfl) (by kernel_rfl) (by kernel_rfl) (by kernel_rfl) (by exact fun _ _ _ h => h) (Or.inl ⟨by rfl, ?_⟩) (by assumption) ?_
        rotate_left
        · (intro _ hSw; (try dsimp only at hSw); go_simp; (try with_reducible rfl))
        try simp only [Act.put, List.setIfInBounds_toArray, List.set_cons_zero, List.set_cons_succ]
        refine wpAnyH_ready (rs := [12]) (by kernel_rfl) (by simp) ?_
        refine AllReadyH.cons (by simp only [List.getElem?_toArray, List.getElem?_cons_succ, List.getElem?_cons_zero]; rfl) (fun Kq hKq => ?_) AllReadyH.nil
        go_simp
        refine hKq.out _ _ ?_ (fun hHeldN => ?_)
        · trivial
        clear hKq Kq hHeld
        have hHeld := hHeldN
        clear hHeldN
        refine wpAnyH_done (by kernel_rfl) ?_ _
        clear hHeld
        go_wp2_with fail
        go_meet
        case rel => exact ⟨m8, b.set K (UInt8.ofNat (x ^^^ (1 + D))), rfl, by first | (rw [HXV.out]; exact HO.out.1.sl) | exact HO.out.1.sl, by rw [List.length_set]; exact HM8.out, HO.out.2.2.1, by rw [List.length_set]; exact HSn.out.2.1, by first | (rw [HXV.out]; exact HO.out.2.2.2.of_no.trans HO.out.2.1) | exact HO.out.2.2.2.of_no.trans HO.out.2.1⟩
      · (go_simp; refine (hre2 _).mono ?_; rintro e w1x ⟨rfl, hw1x⟩; subst w1x)
        refine hKq.out _ _ ?_ (fun hHeldN => ?_)
        · trivial
        clear hKq Kq hHeld
        have hHeld := hHeldN
        clear hHeldN
        refine wpAnyH_take (i := 8) (v := ?_) (by simp only [List.getElem?_toArray, List.getElem?_cons_succ, List.getElem?_cons_zero]; rfl) (by kernel_rfl) (by kernel_rfl) (by kernel_rfl) (by exact fun _ _ _ h => h) (Or.inl ⟨by rfl, ?_⟩) (by assumption) ?_
        rotate_left
        · (intro _ hSw; (try dsimp only at hSw); go_simp; (try with_reducible rfl))
        try simp only [Act.put, List.setIfInBounds_toArray, List.set_cons_zero, List.set_cons_succ]
        refine wpAnyH_take (i := 9) (v := ?_) (by simp only [List.getElem?_toArray, List.getElem?_cons_succ, List.getElem?_cons_zero]; rfl) (by kernel_rfl) (by kernel_rfl) (by kernel_rfl) (by exact fun _ _ _ h => h) (Or.inl ⟨by rfl, ?_⟩) (by assumption) ?_
        rotate_left
        · (intro _ hSw; (try dsimp only at hSw); go_simp; (try with_reducible rfl))
        try simp only [Act.put, List.setIfInBounds_toArray, List.set_cons_zero, List.set_cons_succ]
        refine wpAnyH_ready (rs := [5]) (by kernel_rfl) (by simp) ?_
        refine AllReadyH.cons (by simp only [List.getElem?_toArray, List.getElem?_cons_succ, List.getElem?_cons_zero]; rfl) (fun Kq hKq => ?_) AllReadyH.nil
        go_simp
        refine hKq.out _ _ ?_ (fun hHeldN => ?_)
        · trivial
        clear hKq Kq hHeld
        have hHeld := hHeldN
        clear hHeldN
        refine wpAnyH_take (i := 10) (v := ?_) (by simp only [List.getElem?_toArray, List.getElem?_cons_succ, List.getElem?_cons_zero]; rfl) (by kernel_rfl) (by kernel_rfl) (by kernel_rfl) (by exact fun _ _ _ h => h) (Or.inl ⟨by rfl, ?_⟩) (by assumption) ?_
        rotate_left
        · (intro _ hSw; (try dsimp only at hSw); go_simp; (try with_reducible rfl))
        try simp only [Act.put, List.setIfInBounds_toArray, List.set_cons_zero, List.set_cons_succ]
        refine wpAnyH_take (i := 11) (v := ?_) (by simp only [List.getElem?_toArray, List.getElem?_cons_succ, List.getElem?_cons_zero]; rfl) (by kernel_rfl) (by kernel_rfl) (by kernel_rfl) (by exact fun _ _ _ h => h) (Or.inl ⟨by rfl, ?_⟩) (by assumption) ?_
        rotate_left
        · (intro _ hSw; (try dsimp only at hSw); go_simp; (try with_reducible rfl))
        try simp only [Act.put, List.setIfInBounds_toArray, List.set_cons_zero, List.set_cons_succ]
        refine wpAnyH_ready (rs := [12]) (by kernel_rfl) (by simp) ?_
        refine AllReadyH.cons (by simp only [List.getElem?_toArray, List.getElem?_cons_succ, List.getElem?_cons_zero]; rfl) (fun Kq hKq => ?_) AllReadyH.nil
        go_simp
        refine hKq.out _ _ ?_ (fun hHeldN => ?_)
        · trivial
        clear hKq Kq hHeld
        have hHeld := hHeldN
        clear hHeldN
        refine wpAnyH_done (by kernel_rfl) ?_ _
        clear hHeld
        go_wp2_with fail
        go_meet
        case rel => exact ⟨m8, b.set K (UInt8.ofNat (x ^^^ (1 + D))), rfl, by first | (rw [HXV.out]; exact HO.out.1.sl) | exact HO.out.1.sl, by rw [List.length_set]; exact HM8.out, HO.out.2.2.1, by rw [List.length_set]; exact HSn.out.2.1, by first | (rw [HXV.out]; exact HO.out.2.2.2.of_no.trans HO.out.2.1) | exact HO.out.2.2.2.of_no.trans HO.out.2.1⟩
  case rest =>
  obtain ⟨m', b', rfl, HW⟩ := hcut
  rename World => w9
  have H9w : Hid (Dn U w9 p F (dlS s0) ∧ Own TE w9 o9 c9 ((Dk.names s0.fs).map mkT)) := ⟨⟨H8.out.2.1.is.keeps HW.out.2.2.2.2 (fun k hf hi => HF8.out k hi hf), H8.out.2.1.new, H8.out.2.1.kept.then HW.out.2.2.2.2 (fun k hi => .inr (HN8.out k hi))⟩, H8.out.2.2.keeps HW.out.2.2.2.2 (fun k hk => (H9.out.1 k hk).2)⟩
  have hap := dn_append snapN o8 m' c8 b' H9w.out.1 (HSn.out.1.appE b') (by decide) HW.out.2.1 HW.out.1 HF8.out (by have := HW.out.2.2.2.1; omega) (fun f hf => by rw [show Dk.find snapN.data.toList (Dk.tick (dlS s0)).fs = none by rw [HSn.out.1.on'.tick]; exact HSn.out.1.none] at hf; cases hf)
  go_wp2_with fail
  refine hap.mono ?_
  rintro e wa ⟨rfl, hda, hka⟩
  clear hap
  have HAa : Hid (Dn U wa p (grow F w9 wa) (tornS s0 b') ∧ Own TE wa o9 c9 ((Dk.names s0.fs).map mkT) ∧ ∀ k, inO o9 k → ¬ grow F w9 wa k) := ⟨hda, H9w.out.2.keeps hka (fun k hk => (H9.out.1 k hk).1), fun k hk hg => by
    rcases hg with h1 | h1
    · exact (H9.out.1 k hk).1 h1
    · have := H9w.out.2.lt k hk; omega⟩
  clear hda hka
  have hbo := dn_boot_no HAa.out.1 HTU.out (HSn.out.1.szT HW.out.2.2.2.1) (by decide) (HSn.out.1.bad HW.out.2.2.1) (by decide)
  go_wp2_with fail
  refine hbo.mono ?_
  rintro e wb ⟨rfl, D1, K1⟩
  clear hbo
  have hls := list_any wb p (grow F w9 wa) (tornS s0 b') D1.out.is
  rw [HSn.out.1.onT.tick, show Dk.listE (tornS s0 b') = 0 by unfold Dk.listE; rw [(HSn.out.1.onT (b' := b')).off]; rfl, show Dk.listN (tornS s0 b') = Dk.names s0.fs by unfold Dk.listN; rw [(HSn.out.1.onT (b' := b')).off]; exact HSn.out.1.names] at hls
  go_wp2_with fail
  refine hls.mono ?_
  rintro e wc ⟨o10, c10, m10, rfl, hm10, ho10, hnw10, hi10, hk10⟩
  clear hls
  have h16 : ((Dk.names s0.fs).map mkT).length ≤ 8796093022000 := by rw [List.length_map]; unfold Dk.names; rw [List.length_map]; have := HSn.out.1.len; omega
  have hO9 := (HAa.out.2.1.keeps K1.out HAa.out.2.2).keeps hk10 HAa.out.2.2
  have hst := sameTexts_any wc o10 m10 c10 o9 m9 c9 ((Dk.names s0.fs).map mkT) ((Dk.names s0.fs).map mkT) (by rw [List.length_map]; exact hm10.out) H9.out.2 h16 h16 ho10.sl hO9.sl
  have HKc : Hid (Keeps no U wc) := D1.out.kept.then hk10 (fun k hk => .inr (D1.out.new k hk))
  clear h16 hO9 ho10 hnw10 hi10 hk10 hm10
  go_wp2_with fail
  refine hst.mono ?_
  rintro e wd ⟨⟨B, rfl, hB⟩, hkd⟩
  have eB : B = true := hB.out.2 (by first | rfl | trivial)
  subst eB
  clear hst
  go_wp2_with fail
  go_ret
  exact ⟨rfl, HKU.out.trans (HKc.out.trans hkd)⟩
end Go.Proofs.YtoijeipoblnliaaGreatDoor
