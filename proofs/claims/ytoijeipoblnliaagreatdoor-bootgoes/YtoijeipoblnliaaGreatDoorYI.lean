import Derived.Test.YtoijeipoblnliaaGreatDoorYI0
/- BootGoes. -/
namespace Go.Proofs.YtoijeipoblnliaaGreatDoor
open Go.RowKit Go.Maps Go.Sort Orl Pk
set_option linter.unusedVariables false
set_option linter.unusedSimpArgs false

set_option maxRecDepth 10000 in
set_option maxHeartbeats 1600000 in
theorem goes_any (w : World) (ht : Tabs w) (v : WV) (sl ll : List RW) (h : WIn w v sl ll) (ao : Option Addr) (an ac : Nat) (m0 : List RW) (hms : Sl WE w ao ac m0) (hmn : an = m0.length) (hmk : ∀ x ∈ m0, RWok x) (hml : ∀ b, inO ao b → b < w.heap.size) :
    Calls Tryz.prog 5 #[v.val, .slice ao an ac] w fun e w' => e = .returned (.bool true) ∧ Keeps no w w' := by
  have H : Hid (WIn w v sl ll ∧ Tabs w) := ⟨h, ht⟩
  have HA : Hid (Sl WE w ao ac m0 ∧ an = m0.length ∧ (∀ x ∈ m0, RWok x) ∧ ∀ b, inO ao b → b < w.heap.size) := ⟨hms, hmn, hmk, hml⟩
  clear h ht hms hmn hmk hml
  unfold WV.val
  go_enter Tryz.func5, Tryz.ntmps5
  go_wp2_with fail
  refine (known_any _ (H.out.2.keepsN ((Keeps.refl no w).alloc _))).mono ?_
  rintro e w1 ⟨rfl, hk1⟩
  have HB : Hid (w1.heap[w.heap.size]? = some (boxV v) ∧ Keeps no w w1) := ⟨hk1.at (blk_new w _) id, ((Keeps.refl no w).alloc _).trans hk1⟩
  clear hk1
  have b0 := cell_of_blk HB.out.1 0
  have b1 := cell_of_blk HB.out.1 1
  have b2 := cell_of_blk HB.out.1 2
  have b3 := cell_of_blk HB.out.1 3
  have b4 := cell_of_blk HB.out.1 4
  have hsm := small_any w1 v sl ll (H.out.1.keepsN HB.out.2)
  unfold WV.val at hsm
  simp only [List.getElem?_toArray, List.getElem?_cons_zero, List.getElem?_cons_succ] at b0 b1 b2 b3 b4
  have HS : Hid (WIn w (smV v) (sl.take 30) (ll.take 30) ∧ (sl.take 30).length ≤ 30 ∧ (ll.take 30).length ≤ 30 ∧ ∃ G R : Nat, (smV v).gen = G ∧ (smV v).oth = R ∧ R ≤ 8) := ⟨H.out.1.small, by rw [List.length_take]; omega, by rw [List.length_take]; omega, (max v.gen 0).toNat, rst v.oth 8, by show max v.gen 0 = _; omega, rfl, rst_le _ _⟩
  generalize smV v = V2 at HS hsm
  obtain ⟨g, so, sn, sc, lo, ln, lc, ta, vo⟩ := v
  simp only at b0 b1 b2 b3 b4 hsm
  go_wp2_with fail
  refine hsm.mono ?_
  rintro e w2 ⟨rfl, hk2⟩
  clear hsm b0 b1 b2 b3 b4
  have HB2 : Hid (w2.heap[w.heap.size]? = some (boxV ⟨g, so, sn, sc, lo, ln, lc, ta, vo⟩) ∧ Keeps no w w2) := ⟨hk2.at HB.out.1 id, HB.out.2.trans hk2⟩
  have HT : Hid (Tabs w) := H.out.2
  clear hk2 HB H
  generalize sl.take 30 = sl2 at HS
  generalize ll.take 30 = ll2 at HS
  obtain ⟨g2, so2, sn2, sc2, lo2, ln2, lc2, ta2, vo2⟩ := V2
  obtain ⟨G, R, hG, hR, hR8⟩ := HS.out.2.2.2
  simp only at hG hR ⊢
  subst hG hR
  have hbs := box_store HB2.out.1 HB2.out.2 ⟨(G : Nat), so2, sn2, sc2, lo2, ln2, lc2, ta2, (R : Nat)⟩
  have HG : Hid ((G : Int) ≤ 9223372036854775807 ∧ R ≤ 8) := ⟨HS.out.1.gen.2, hR8⟩
  clear hR8
  go_upto_region 4 with (refine wpList_store_row (by rfl) _ _ _ (by rfl) w.heap.size _ (by rfl) (by rfl) 27 _ HB2.out.1 (wv_size _ _ _ _ _) (by rfl) (by simp [Value.oneCell']) ?_)
  simp only at hbs
  simp only [Act.put]
  generalize w2.setRow w.heap.size _ = w3 at hbs ⊢
  have HB3 : Hid (w3.heap[w.heap.size]? = some (boxV ⟨(G : Nat), so2, sn2, sc2, lo2, ln2, lc2, ta2, (R : Nat)⟩) ∧ Keeps no w w3) := hbs
  clear hbs HB2
  have b0 := cell_of_blk HB3.out.1 0
  simp only [List.getElem?_toArray, List.getElem?_cons_zero, List.getElem?_cons_succ] at b0
  have b4 := cell_of_blk HB3.out.1 4
  simp only [List.getElem?_toArray, List.getElem?_cons_zero, List.getElem?_cons_succ] at b4
  have f4 := frozen_of_blk HB3.out.1 4
  have hbo := box_oth HB3.out.1 HB3.out.2 0
  go_upto_region 5 with fail
  generalize w3.setCell _ _ = U at hbo ⊢
  have HU : Hid (U.heap[w.heap.size]? = some (boxV ⟨(G : Nat), so2, sn2, sc2, lo2, ln2, lc2, ta2, 0⟩) ∧ Keeps no w U) := hbo
  clear hbo f4 b4 b0 HB3
  have c0 := cell_of_blk HU.out.1 0
  have c1 := cell_of_blk HU.out.1 1
  have c2 := cell_of_blk HU.out.1 2
  have c3 := cell_of_blk HU.out.1 3
  have c4 := cell_of_blk HU.out.1 4
  simp only [List.getElem?_toArray, List.getElem?_cons_zero, List.getElem?_cons_succ] at c0 c1 c2 c3 c4
  have HTU : Hid (Tabs U) := HT.out.keepsN HU.out.2
  have hW := HS.out.1.keepsN HU.out.2
  have hla := laid_any U HTU.out ⟨(G : Nat), so2, sn2, sc2, lo2, ln2, lc2, ta2, 0⟩ sl2 ll2 G 0 ⟨hW.gen, hW.tail, ⟨by show (_ : Int) ≤ 0; omega, by show (0 : Int) ≤ _; omega⟩, hW.sn, hW.ln, hW.s, hW.l, hW.sok, hW.lok, hW.slt, hW.llt⟩ rfl HS.out.2.1 HS.out.2.2.1 rfl (by omega) 5 (by decide)
  unfold WV.val at hla
  simp only at hla
  clear hW
  go_wp2_with fail
  refine hla.mono ?_
  rintro e w5 ⟨p, q, rfl, HL⟩
  clear hla c0 c1 c2 c3 c4
  obtain ⟨F, bs, N, hH⟩ := laid_held HL.out HS.out.2.2.1 (by omega) (.inr rfl)
  have HRF : Hid ((otS (tnS bs G (recL ll2) (tornK ta2)) 0).ref = 0) := tnS_ref bs G (recL ll2) (tornK ta2)
  have HRL : Hid ((rowb (recL ll2)).length ≤ 93240) := by
    show _ ≤ _
    have := recL_row ll2
    have := HS.out.2.2.1
    omega
  generalize recL ll2 = rs at hH HRF HRL
  generalize otS _ _ = s0 at hH HRF
  have H5 : Hid (Held 5 G rs U w5 p q F bs N s0) := hH
  clear hH HL
  have HX : Hid (U.heap[w.heap.size]? = some (boxV ⟨(G : Nat), so2, sn2, sc2, lo2, ln2, lc2, ta2, 0⟩) ∧ w.heap.size < U.heap.size ∧ Keeps no w U) := ⟨HU.out.1, lt_of_block HU.out.1, HU.out.2⟩
  clear HU HS
  obtain ⟨s1, hG1⟩ := H5.out.apd HRF.out
  have HG1 : Hid (Good 5 G bs rs s0 s1 ∧ Apd G bs rs s1) := hG1
  clear hG1 HRF
  have hbo := dn_boot H5.out.dn HTU.out H5.out.sz (by decide) HG1.out.1.boot
  go_wp2_with fail
  refine hbo.mono ?_
  rintro e w6 ⟨q1, l1, rfl, HL1, HS1, D1, K1⟩
  clear hbo
  obtain ⟨N1, hN1⟩ := HS1.out
  have HTr : Hid (Tri U w5 w6 F l1 q q1 (redoS 5 (bst 5 bs) rs) N N1 w6) := by
    refine ⟨H5.out.st.other K1.out (fun b hb => .inr hb), (hN1.2.wide (fun b hb => H5.out.dn.is.lt b hb)).sub (fun b hb => ?_), H5.out.dn.kept.size, ⟨HL1.out.2.1, lt_of_block HL1.out.1.blk⟩, Nat.le_refl _, fun b hb => H5.out.dn.is.lt b hb⟩
    rcases hb with h1 | h1 | h1
    · exact .inr h1
    · exact .inl h1
    · omega
  have HN : Hid (N ≤ 500000000 ∧ N1 ≤ 420000000 ∧ BsOk 5 G bs ∧ Gds rs) := ⟨H5.out.n, hN1.1, H5.out.bk, H5.out.gd⟩
  have HI1 : Hid (IsL w6 l1 p (logN G) (rowb rs).length ∧ ¬ F l1 ∧ U.heap.size ≤ l1) := ⟨HL1.out.1, HL1.out.2.2, Nat.le_trans H5.out.dn.kept.size HL1.out.2.1⟩
  have HA1 : Hid (Apd G bs rs s1) := HG1.out.2
  clear hN1 HS1 HL1 HG1 H5 K1
  obtain ⟨LN, hLN⟩ : ∃ LN, LN = logN (G : Int) := ⟨_, rfl⟩
  have HLN : Hid (LN = logN (G : Int)) := hLN
  rw [← hLN] at HI1
  clear hLN
  have hct := cutTo_any w6 ao an ac m0 20 HA.out.2.1 (HA.out.1.keepsN (HX.out.2.2.trans D1.out.kept))
  change Calls Tryz.prog 21 #[.slice ao an ac, .int .i64 20] w6 _ at hct
  go_wp2_with fail
  refine hct.mono ?_
  rintro e w1x ⟨rfl, hw1x⟩
  subst w1x
  clear hct
  have HM : Hid (Sl WE w ao ac (m0.take 20) ∧ min an 20 = (m0.take 20).length ∧ (∀ x ∈ m0.take 20, RWok x) ∧ (∀ b, inO ao b → b < w.heap.size) ∧ (m0.take 20).length ≤ 20) := ⟨HA.out.1.cutW 20, by rw [List.length_take, HA.out.2.1]; omega, fun x hx => HA.out.2.2.1 x (List.mem_of_mem_take hx), HA.out.2.2.2, by rw [List.length_take]; omega⟩
  generalize m0.take 20 = ml at HM
  generalize min an 20 = mn at HM
  clear HA
  have hm20 : (mn : Int) ≤ 20 := by have := HM.out.2.1; have := HM.out.2.2.2.2; omega
  have HRB : Hid (∀ k, (rowb (rs ++ recL (ml.take k))).length ≤ 155400) := fun k => by
    rw [rowb_app, List.length_append]
    have := recL_row (ml.take k)
    rw [List.length_take] at this
    have := HRL.out
    have := HM.out.2.2.2.2
    omega
  go_wp2_with fail
  go_loopw [12] (fun i wr => ∃ (k : Nat) (Fk : Nat → Prop) (s : Dk.St), k ≤ mn ∧ i = .int .i64 k ∧ Hid (Dn U wr p Fk s ∧ Apd G bs (rs ++ recL (ml.take k)) s ∧ IsL wr l1 p LN (rowb (rs ++ recL (ml.take k))).length ∧ ¬ Fk l1 ∧ (∀ b, Fk b → F b ∨ w6.heap.size ≤ b) ∧ Tri U w5 w6 F l1 q q1 (redoS 5 (bst 5 bs) rs) N N1 wr)) (fun i _ => mn - (intOf i).toNat)
  case atStart => exact ⟨0, F, s1, by omega, rfl, D1.out, by simpa [recL] using HA1.out, by simpa [recL] using HI1.out.1, HI1.out.2.1, fun b hb => .inl hb, HTr.out⟩
  case round =>
    obtain ⟨k, Fk, s, hk, rfl, HH⟩ := hrel
    rename World => wq
    by_cases hlt : k < mn
    · have hlt' : (k : Int) < mn := by omega
      have hkl : k < ml.length := by have := HM.out.2.1; omega
      have hsl : Sl WE wq ao ac ml := HM.out.1.keepsN (HX.out.2.2.trans HH.out.1.kept)
      obtain ⟨b, off, rfl, d0, d1, d2, d3⟩ := hsl.atW hkl
      obtain ⟨x, hx⟩ : ∃ x, x = ml.getD k rw0 := ⟨_, rfl⟩
      rw [← hx] at d0 d1 d2 d3
      have hxm : x ∈ ml := by rw [hx, List.getD_eq_getElem?_getD, List.getElem?_eq_getElem hkl]; exact List.getElem_mem hkl
      have hrec := rec_any wq x (HM.out.2.2.1 x hxm)
      have hsn : Hid (rs ++ recL (ml.take (k + 1)) = (rs ++ recL (ml.take k)) ++ [recS x]) := by
        show _ = _
        rw [← recL_take, ← recL_take, take_succ_getD (recL ml) k c0 (by rw [recL_len]; exact hkl), recL_getD ml k hkl, ← hx, List.append_assoc]
      clear hsl hkl hx hxm
      go_wp2_with fail
      refine hrec.mono ?_
      rintro e w7 ⟨⟨vk, vi, vop, vnp, vcp, vok, vnk, vck⟩, rfl, HGc, K7⟩
      clear hrec
      have hD7 : Hid (Dn U w7 p Fk s) := HH.out.1.beside K7.out
      have hap := HH.out.2.1.next HG.out.1 (recS_gd x) (by rw [← hsn.out, rb_len]; have := HRB.out (k + 1); omega)
      have hlog := dn_log (k' := (rowb (rs ++ recL (ml.take (k + 1)))).length) (logN G) ⟨vk, vi, vop, vnp, vcp, vok, vnk, vck⟩ hD7.out HTU.out.crc (by rw [← HLN.out]; exact HH.out.2.2.1.keepsN K7.out) HH.out.2.2.2.1 HI1.out.2.2 HGc.out.isC hap.1 (by rw [if_pos rfl, hsn.out, rowb_snoc, List.length_append]) (Nat.le_trans (logN_size (by omega) HG.out.1) (by decide)) (by have := HRB.out k; omega) (fun _ => fit_of (by show (bsOf (logB G) _).length + _ ≤ _; rw [HH.out.2.1.log, rb_len, enc_length]; have := HRB.out k; have := recS_body x; omega))
      have HAp : Hid (Apd G bs (rs ++ recL (ml.take (k + 1))) (lay1 (logB G) (fl (rb ((rs ++ recL (ml.take k)) ++ [recS x]))) s)) := by rw [hsn.out]; exact hap.2
      clear hap
      rw [← HLN.out] at hlog
      simp only at hlog ⊢
      go_wp2_with fail
      refine hlog.mono ?_
      rintro e w8 ⟨rfl, D8, HL8, K8⟩
      clear hlog
      have H8 : Hid (Dn U w8 p (grow Fk w7 w8) (lay1 (logB G) (fl (rb ((rs ++ recL (ml.take k)) ++ [recS x]))) s) ∧ Apd G bs (rs ++ recL (ml.take (k + 1))) (lay1 (logB G) (fl (rb ((rs ++ recL (ml.take k)) ++ [recS x]))) s) ∧ IsL w8 l1 p LN (rowb (rs ++ recL (ml.take (k + 1)))).length ∧ ¬ grow Fk w7 w8 l1 ∧ (∀ b, grow Fk w7 w8 b → F b ∨ w6.heap.size ≤ b) ∧ Tri U w5 w6 F l1 q q1 (redoS 5 (bst 5 bs) rs) N N1 w8) := by
        have h7 := HH.out.2.2.2.2.2.step K7.out (fun b _ hb => hb.elim)
        refine ⟨D8.out, HAp.out, HL8.out, grow_no HH.out.2.2.2.1 (by have := h7.b; have := h7.c; omega), fun b hb => ?_, h7.step K8.out (fun b hb hs => ?_)⟩
        · rcases hb with h1 | h1
          · exact HH.out.2.2.2.2.1 b h1
          · have := h7.c; exact .inr (by omega)
        · rcases hs with h1 | h1
          · rcases HH.out.2.2.2.2.1 b h1 with h2 | h2
            · exact .inl h2
            · exact .inr (.inr h2)
          · exact .inr (.inl h1)
      clear D8 HL8 K8
      go_wp2_with fail
      go_roundw
      case rel => exact ⟨k + 1, _, _, by omega, by go_num, H8.out⟩
      case measure => simp [intOf] <;> omega
    · have hlt' : ¬ (k : Int) < mn := by omega
      have HE : Hid (ml.take k = ml) := List.take_of_length_le (by have := HM.out.2.1; omega)
      have HK : Hid (Dn U wq p Fk s ∧ Apd G bs (rs ++ recL ml) s ∧ IsL wq l1 p LN (rowb (rs ++ recL ml)).length ∧ ¬ Fk l1 ∧ (∀ b, Fk b → F b ∨ w6.heap.size ≤ b) ∧ Tri U w5 w6 F l1 q q1 (redoS 5 (bst 5 bs) rs) N N1 wq) := by have := HH.out; rw [HE.out] at this; exact this
      clear HH HE HTr HA1
      have HGD : Hid (Gds (rs ++ recL ml)) := fun r hr => by rcases List.mem_append.1 hr with h1 | h1; exact HN.out.2.2.2 r h1; exact recL_gds ml r h1
      obtain ⟨s3, hG3⟩ := HK.out.2.1.boot HN.out.2.2.1 HGD.out
      have HG3 : Hid (Good 5 G bs (rs ++ recL ml) s s3 ∧ Apd G bs (rs ++ recL ml) s3) := hG3
      clear hG3
      have hbo := dn_boot HK.out.1 HTU.out HK.out.2.1.sz (by decide) HG3.out.1.boot
      go_wp2_with fail
      refine hbo.mono ?_
      rintro e wb ⟨q2, l2, rfl, HL2, HS2, D2, K2⟩
      clear hbo
      obtain ⟨N2, hN2⟩ := HS2.out
      have HTb : Hid (Tri U w5 w6 F l1 q q1 (redoS 5 (bst 5 bs) rs) N N1 wb) := HK.out.2.2.2.2.2.step K2.out (fun b hb hs => by
        rcases HK.out.2.2.2.2.1 b hs with h2 | h2
        · exact .inl h2
        · exact .inr (.inr h2))
      have HFk : Hid ((∀ b, Fk b → b < wq.heap.size) ∧ (∀ b, Fk b → F b ∨ w6.heap.size ≤ b) ∧ w6.heap.size ≤ wq.heap.size ∧ w5.heap.size ≤ wq.heap.size ∧ wq.heap.size ≤ wb.heap.size ∧ w5.heap.size ≤ l1 ∧ w5.heap.size ≤ w6.heap.size) := ⟨fun b hb => HK.out.1.is.lt b hb, HK.out.2.2.2.2.1, HK.out.2.2.2.2.2.c, by have := HK.out.2.2.2.2.2.b; have := HK.out.2.2.2.2.2.c; omega, K2.out.size, HK.out.2.2.2.2.2.b.1, by have := HK.out.2.2.2.2.2.b; omega⟩
      have HLs : Hid (IsL wb l1 p LN (rowb (rs ++ recL ml)).length ∧ IsL wb l2 p LN (rowb (rs ++ recL ml)).length ∧ wq.heap.size ≤ l2 ∧ l2 < wb.heap.size) := ⟨HK.out.2.2.1.keeps K2.out HK.out.2.2.2.1, by rw [HLN.out]; exact HL2.out.1, HL2.out.2.1, lt_of_block HL2.out.1.blk⟩
      have HS2' : Hid (N2 ≤ 420000000 ∧ Sto wq.heap.size wb q2 (redoS 5 (bst 5 bs) (rs ++ recL ml)) N2 (fun b => b = l2)) := hN2
      clear hN2 HS2 HL2
      have hdn := done_any HTb.out.want ao mn ac ml HM.out.2.1 (by have := HM.out.2.1; have := HM.out.2.2.2.2; omega) (HM.out.1.keepsN (HX.out.2.2.trans D2.out.kept)) HM.out.2.2.1 (fun b hb => .inl (by have := HM.out.2.2.2.1 b hb; have := HX.out.2.1; omega)) 5 (by decide) (by have := HN.out.1; omega)
      rw [← redo_app] at hdn
      go_wp2_with fail
      refine hdn.mono ?_
      rintro e wc ⟨rfl, HC⟩
      clear hdn
      generalize hRS : rs ++ recL ml = RS at *
      generalize hST : redoS 5 (bst 5 bs) RS = ST at *
      have hS : Hid (∀ b, (U.heap.size ≤ b ∧ ¬ (F b ∨ (w5.heap.size ≤ b ∧ b < wb.heap.size))) ∧ b < wb.heap.size → b < w5.heap.size ∧ ¬ F b) := fun b hb => ⟨by
        rcases Nat.lt_or_ge b w5.heap.size with h1 | h1
        · exact h1
        · exact (hb.1.2 (.inr ⟨h1, hb.2⟩)).elim, fun h => hb.1.2 (.inl h)⟩
      have H1c : Hid (Sto w5.heap.size wc q1 (redoS 5 (bst 5 bs) rs) N1 (fun b => (b = l1 ∨ F b ∨ (w6.heap.size ≤ b ∧ b < wb.heap.size)) ∨ (wb.heap.size ≤ b ∧ b < wc.heap.size))) := HTb.out.one.other HC.out.2.low (fun b hb => .inl (hS.out b hb).1)
      have H2c : Hid (Sto wq.heap.size wc q2 ST N2 (fun b => b = l2 ∨ (wb.heap.size ≤ b ∧ b < wc.heap.size))) := HS2'.out.2.other HC.out.2.low (fun b hb => .inl (by have := (hS.out b hb).1; have := HFk.out.2.2.2.1; omega))
      have HDc : Hid (Dn U wc p Fk s3) := ⟨D2.out.is.keeps HC.out.2.low (fun b hb hs => by
        have h0 := hS.out b hs
        rcases HFk.out.2.1 b hb with h1 | h1
        · exact h0.2 h1
        · have := HFk.out.2.2.2.2.2.2; omega), D2.out.new, D2.out.kept.then HC.out.2 (fun b hb => .inr hb.1)⟩
      have HLc : Hid (IsL wc l1 p LN (rowb RS).length ∧ IsL wc l2 p LN (rowb RS).length) := ⟨HLs.out.1.keeps HC.out.2.low (fun h => by have := hS.out _ h; have := HFk.out.2.2.2.2.2.1; omega), HLs.out.2.1.keeps HC.out.2.low (fun h => by have := hS.out _ h; have := HLs.out.2.2.1; have := HFk.out.2.2.2.1; omega)⟩
      have c0 := cell_of_blk (HDc.out.kept.at HX.out.1 id) 0
      simp only [List.getElem?_toArray, List.getElem?_cons_zero, List.getElem?_cons_succ] at c0
      have hz2 := LogSize_any wc l2 p LN (rowb RS).length HLc.out.2
      have hz1 := LogSize_any wc l1 p LN (rowb RS).length HLc.out.1
      generalize (rowb RS).length = kz at hz1 hz2
      have hss := sameStores_any H2c.out HC.out.1 (by have := HS2'.out.1; omega) (by have := HN.out.1; have := HM.out.2.1; have := HM.out.2.2.2.2; omega)
      go_wp2_with fail
      refine hz2.mono ?_
      rintro e w1x ⟨rfl, hw1x⟩
      subst w1x
      go_wp2_with fail
      refine hz1.mono ?_
      rintro e w1x ⟨rfl, hw1x⟩
      subst w1x
      clear hz1 hz2
      go_wp2_with fail
      refine hss.mono ?_
      rintro e wd ⟨rfl, hkd⟩
      clear hss c0
      have HKd : Hid (Keeps no wc wd) := hkd
      clear hkd
      have hkp := (H1c.out.keepsN HKd.out).keptK (by have := HN.out.2.1; omega)
      go_wp2_with fail
      refine hkp.mono ?_
      rintro e we ⟨ok, nk, ck, ks, rfl, HKs⟩
      clear hkp
      obtain ⟨wf, hwf⟩ : ∃ wf, wf = we.alloc (.cells #[.int .i64 0, .int .i64 11, .int .i64 7, .string ⟨#[]⟩, .int .i64 2, .int .i64 11, .int .i64 0, .string ⟨#[]⟩] 57) := ⟨_, rfl⟩
      have HKf : Hid (Keeps no we wf ∧ Keeps no wc wf ∧ wf.heap.size = we.heap.size + 1) := ⟨by rw [hwf]; exact (Keeps.refl no we).alloc _, by rw [hwf]; exact (HKd.out.trans HKs.out.2.2.1).alloc _, by rw [hwf]; exact World.size_alloc ..⟩
      have HZ : Hid (wb.heap.size ≤ wc.heap.size ∧ wc.heap.size ≤ wd.heap.size ∧ wd.heap.size ≤ we.heap.size) := ⟨HC.out.2.size, HKd.out.size, HKs.out.2.2.1.size⟩
      have H2f : Hid (Sto wq.heap.size wf q2 ST N2 (fun b => (b = l2 ∨ (wb.heap.size ≤ b ∧ b < wc.heap.size)) ∨ (wc.heap.size ≤ b ∧ b < wf.heap.size))) := H2c.out.other HKf.out.2.1 (fun b hb => hb.elim)
      have hd2 := done_any H2f.out (some ⟨we.heap.size, 0, none⟩) 2 2 two rfl (by omega) (by rw [hwf]; exact two_sl we) two_ok (fun b hb => .inr (by
        obtain ⟨x, hx, rfl⟩ := hb
        cases hx
        exact .inr ⟨by have := HZ.out; show _ ≤ we.heap.size; omega, by have := HKf.out.2.2; show we.heap.size < _; omega⟩)) 8 (by decide) (by have := HS2'.out.1; omega)
      have HD2 : Hid (Calls Tryz.prog 24 _ wf _) := hd2
      clear hd2
      rw [hwf] at HD2
      go_wp2_with fail
      refine Calls.mono HD2.out ?_
      rintro e wg ⟨rfl, HGg⟩
      rw [← hwf] at HGg
      clear HD2 hwf
      have hS2 : Hid (∀ b, (wq.heap.size ≤ b ∧ ¬ ((b = l2 ∨ (wb.heap.size ≤ b ∧ b < wc.heap.size)) ∨ (wc.heap.size ≤ b ∧ b < wf.heap.size))) ∧ b < wf.heap.size → wq.heap.size ≤ b ∧ b < wb.heap.size) := fun b hb => ⟨hb.1.1, by
        rcases Nat.lt_or_ge b wb.heap.size with h1 | h1
        · exact h1
        · rcases Nat.lt_or_ge b wc.heap.size with h2 | h2
          · exact (hb.1.2 (.inl (.inr ⟨h1, h2⟩))).elim
          · exact (hb.1.2 (.inr ⟨h2, hb.2⟩)).elim⟩
      have HWg : Hid (Sto U.heap.size wg q ST (N + 3 * mn) (fun b => F b ∨ (w5.heap.size ≤ b ∧ b < wb.heap.size))) := ((HC.out.1.keepsN HKf.out.2.1).other HGg.out.2.low (fun b hb => .inr (.inr (by have := hS2.out b hb; have := HFk.out.2.2.2.1; omega)))).sub (fun b hb => .inl hb)
      have H1g : Hid (Sto w5.heap.size wg q1 (redoS 5 (bst 5 bs) rs) N1 (fun b => (b = l1 ∨ F b ∨ (w6.heap.size ≤ b ∧ b < wb.heap.size)) ∨ (wb.heap.size ≤ b ∧ b < wc.heap.size))) := ((H1c.out.keepsN HKf.out.2.1).other HGg.out.2.low (fun b hb => .inr (.inl (.inr (.inr (by have := hS2.out b hb; have := HFk.out.2.2.1; omega)))))).sub (fun b hb => .inl hb)
      have HDg : Hid (Dn U wg p Fk s3) := by
        have a := HDc.out.beside HKf.out.2.1
        exact ⟨a.is.keeps HGg.out.2.low (fun b hb hs => by have := HFk.out.1 b hb; have := hS2.out b hs; omega), a.new, a.kept.then HGg.out.2 (fun b hb => .inr (by have := hb.1; have := HDc.out.kept.size; have := HFk.out.2.2.2.1; have := HTb.out.a; omega))⟩
      have HQ : Hid (Kd (redoS 5 (bst 5 bs) rs) ks ok nk ck wg) := (HKs.out.1.keepsN HKf.out.1).keeps (w0 := wd) HKs.out.2.1.new (fun x hx => (HKs.out.2.1.key x hx).2) HGg.out.2.low (fun b h1 h2 hs => by have := hS2.out b hs; have := HZ.out; omega)
      obtain ⟨s4, hG4⟩ := HG3.out.2.boot HN.out.2.2.1 HGD.out
      have hbo := dn_boot HDg.out HTU.out HG3.out.2.sz (by decide) hG4.1.boot
      rw [hST] at hbo
      clear hG4
      go_wp2_with fail
      refine hbo.mono ?_
      rintro e wh ⟨q3, l3, rfl, HL3, HS3, D3, K3⟩
      clear hbo
      obtain ⟨N3, hN3⟩ := HS3.out
      have HWh : Hid (Sto U.heap.size wh q ST (N + 3 * mn) (fun b => F b ∨ (w5.heap.size ≤ b ∧ b < wb.heap.size))) := (HWg.out.other K3.out (fun b hb => .inr (by
        rcases HFk.out.2.1 b hb with h1 | h1
        · exact .inl h1
        · exact .inr (by have := HFk.out.1 b hb; have := HFk.out.2.2; omega)))).sub (fun b hb => .inl hb)
      have H1h : Hid (Sto w5.heap.size wh q1 (redoS 5 (bst 5 bs) rs) N1 (fun b => (b = l1 ∨ F b ∨ (w6.heap.size ≤ b ∧ b < wb.heap.size)) ∨ (wb.heap.size ≤ b ∧ b < wc.heap.size))) := (H1g.out.other K3.out (fun b hb => .inr (.inl (.inr (by
        rcases HFk.out.2.1 b hb with h1 | h1
        · exact .inl h1
        · exact .inr (by have := HFk.out.1 b hb; have := HFk.out.2.2; omega)))))).sub (fun b hb => .inl hb)
      have HQh : Hid (Kd (redoS 5 (bst 5 bs) rs) ks ok nk ck wh) := HQ.out.keeps (w0 := wd) HKs.out.2.1.new (fun x hx => (HKs.out.2.1.key x hx).2) K3.out (fun b h1 h2 hs => by have := HFk.out.1 b hs; have := HFk.out.2.2; have := HZ.out; omega)
      have hss := sameStores_any hN3.2 HWh.out (by have := hN3.1; omega) (by have := HN.out.1; have := HM.out.2.1; have := HM.out.2.2.2.2; omega)
      clear hN3 HS3 HL3
      go_wp2_with fail
      refine hss.mono ?_
      rintro e wi ⟨rfl, hki⟩
      clear hss
      have HKi : Hid (Keeps no wh wi) := hki
      clear hki
      have hkp := (H1h.out.keepsN HKi.out).keptK (by have := HN.out.2.1; omega)
      go_wp2_with fail
      refine hkp.mono ?_
      rintro e wj ⟨ok2, nk2, ck2, ks2, rfl, HKs2⟩
      clear hkp
      have hsk := sameKd true (Sim.refl _) (fun _ _ => rfl) HKs2.out.1 (HQh.out.keepsN (HKi.out.trans HKs2.out.2.2.1))
      go_wp2_with fail
      refine hsk.mono ?_
      rintro e wl ⟨rfl, hkl⟩
      go_wp2_with fail
      go_ret
      exact ⟨rfl, HX.out.2.2.trans (D3.out.kept.trans (HKi.out.trans (HKs2.out.2.2.1.trans hkl)))⟩
end Go.Proofs.YtoijeipoblnliaaGreatDoor
