import Derived.Test.YtoijeipoblnliaaGreatDoorYG0
/- BootArmed. -/
namespace Go.Proofs.YtoijeipoblnliaaGreatDoor
open Go.RowKit Go.Maps Go.Sort Orl Pk
set_option linter.unusedVariables false
set_option linter.unusedSimpArgs false

def IZ : El Int := ⟨3, 68, 1, 8, fun z => [.int .i64 z]⟩
theorem infoZ : (Tryz.prog.info? 3).map (fun i => (i.zero, i.size, i.bytes)) = some (some (.int .i64 0), 1, 8) := by kernel_rfl
theorem okZ : IZ.Ok := by
  obtain ⟨i0, hi, hz0, hz1, hz2⟩ := info_parts infoZ
  exact ⟨fun _ => rfl, fun x u hu => by simp [IZ] at hu; subst hu; rfl, by decide, Tryz.underlying68, i0, _, hi, hz0, hz1, hz2, rfl⟩
theorem Sl.atZ {w : World} {a : Option Addr} {c : Nat} {xs : List Int} (h : Sl IZ w a c xs) {j : Nat} (hj : j < xs.length) : ∃ b off, a = some ⟨b, off, none⟩ ∧ w.cell? ⟨b, off + j, none⟩ = some (.int .i64 (xs.getD j 0)) := by
  rcases h.row with e | ⟨b, off, rfl, hc⟩
  · subst e; simp at hj
  · refine ⟨b, off, rfl, hc j _ ?_⟩
    have := cells_at okZ 0 xs j 0 hj (by decide)
    simpa [IZ] using this
set_option maxRecDepth 10000 in
set_option maxHeartbeats 1600000 in
theorem armed_any (w : World) (ht : Tabs w) (v : WV) (sl ll : List RW) (h : WIn w v sl ll) (ao : Option Addr) (an ac : Nat) (zs : List Int) (hzs : Sl IZ w ao ac zs) (hzn : an = zs.length) (hzi : ∀ z ∈ zs, I64 z) (keep : Int) (hkp : I64 keep) :
    Calls Tryz.prog 7 #[v.val, .slice ao an ac, .int .i64 keep] w fun e w' => e = .returned (.bool true) ∧ Keeps no w w' := by
  have H : Hid (WIn w v sl ll ∧ Tabs w) := ⟨h, ht⟩
  have HA : Hid (Sl IZ w ao ac zs ∧ an = zs.length ∧ (∀ z ∈ zs, I64 z) ∧ I64 keep) := ⟨hzs, hzn, hzi, hkp⟩
  clear h ht hzs hzn hzi hkp
  unfold WV.val
  go_enter Tryz.func7, Tryz.ntmps7
  go_wp2_with fail
  refine (known_any _ (H.out.2.keepsN ((Keeps.refl no w).alloc _))).mono ?_
  rintro e w1 ⟨rfl, hk1⟩
  have HB : Hid (w1.heap[w.heap.size]? = some (boxV v) ∧ Keeps no w w1) := ⟨hk1.at (blk_new w _) id, ((Keeps.refl no w).alloc _).trans hk1⟩
  clear hk1
  have b0 := cell_of_blk HB.out.1 0
  have b1 := cell_of_blk HB.out.1 1
  have b2 := cell_of_blk HB.out.1 2
  have b3 := cell_of_blk HB.out.1 3
  have b4 := cell_of_blk HB.out.1 4
  have hsm := small_any w1 v sl ll (H.out.1.keepsN HB.out.2)
  unfold WV.val at hsm
  simp only [List.getElem?_toArray, List.getElem?_cons_zero, List.getElem?_cons_succ] at b0 b1 b2 b3 b4
  have HS : Hid (WIn w (smV v) (sl.take 30) (ll.take 30) ∧ (sl.take 30).length ≤ 30 ∧ (ll.take 30).length ≤ 30 ∧ ∃ G R : Nat, (smV v).gen = G ∧ (smV v).oth = R ∧ R ≤ 8) := ⟨H.out.1.small, by rw [List.length_take]; omega, by rw [List.length_take]; omega, (max v.gen 0).toNat, rst v.oth 8, by show max v.gen 0 = _; omega, rfl, rst_le _ _⟩
  generalize smV v = V2 at HS hsm
  obtain ⟨g, so, sn, sc, lo, ln, lc, ta, vo⟩ := v
  simp only at b0 b1 b2 b3 b4 hsm
  go_wp2_with fail
  refine hsm.mono ?_
  rintro e w2 ⟨rfl, hk2⟩
  clear hsm b0 b1 b2 b3 b4
  have HB2 : Hid (w2.heap[w.heap.size]? = some (boxV ⟨g, so, sn, sc, lo, ln, lc, ta, vo⟩) ∧ Keeps no w w2) := ⟨hk2.at HB.out.1 id, HB.out.2.trans hk2⟩
  have HT : Hid (Tabs w) := H.out.2
  clear hk2 HB H
  generalize sl.take 30 = sl2 at HS
  generalize ll.take 30 = ll2 at HS
  obtain ⟨g2, so2, sn2, sc2, lo2, ln2, lc2, ta2, vo2⟩ := V2
  obtain ⟨G, R, hG, hR, hR8⟩ := HS.out.2.2.2
  simp only at hG hR ⊢
  subst hG hR
  have hbs := box_store HB2.out.1 HB2.out.2 ⟨(G : Nat), so2, sn2, sc2, lo2, ln2, lc2, ta2, (R : Nat)⟩
  have HG : Hid ((G : Int) ≤ 9223372036854775807 ∧ R ≤ 8) := ⟨HS.out.1.gen.2, hR8⟩
  clear hR8
  go_upto_region 4 with (refine wpList_store_row (by rfl) _ _ _ (by rfl) w.heap.size _ (by rfl) (by rfl) 27 _ HB2.out.1 (wv_size _ _ _ _ _) (by rfl) (by simp [Value.oneCell']) ?_)
  simp only at hbs
  simp only [Act.put]
  generalize w2.setRow w.heap.size _ = w3 at hbs ⊢
  have HB3 : Hid (w3.heap[w.heap.size]? = some (boxV ⟨(G : Nat), so2, sn2, sc2, lo2, ln2, lc2, ta2, (R : Nat)⟩) ∧ Keeps no w w3) := hbs
  clear hbs HB2
  have b0 := cell_of_blk HB3.out.1 0
  simp only [List.getElem?_toArray, List.getElem?_cons_zero, List.getElem?_cons_succ] at b0
  obtain ⟨c1, hc1⟩ : ∃ c1 : Bool, ((G : Int) == 999) = c1 := ⟨_, rfl⟩
  obtain ⟨c2, hc2⟩ : ∃ c2 : Bool, ((G : Int) == 1) = c2 := ⟨_, rfl⟩
  have HC : Hid (((G : Int) == 999) = c1 ∧ ((G : Int) == 1) = c2) := ⟨hc1, hc2⟩
  go_cut [30] from 23 to 29 (fun v25 U => U = w3 ∧ v25 = .bool (c1 || c2))
  case first =>
    cases c1 with
    | true =>
      go_wp2_with fail
      go_meet
      case rel => exact ⟨rfl, rfl⟩
    | false =>
      cases c2 with
      | true =>
        go_wp2_with fail
        go_meet
        case rel => exact ⟨rfl, rfl⟩
      | false =>
        go_wp2_with fail
        go_meet
        case rel => exact ⟨rfl, rfl⟩
  case rest =>
  obtain ⟨rfl, rfl⟩ := hcut
  obtain ⟨bz, hbz⟩ : ∃ bz : Bool, (c1 || c2) = bz := ⟨_, rfl⟩
  rw [hbz]
  have HZ : Hid (bz = false → G ≠ 999) := by
    intro e h
    rw [e] at hbz
    have h1 := HC.out.1
    have h2 : c1 = false := by revert hbz; cases c1 <;> simp
    rw [h2, h] at h1
    simp at h1
  clear hbz hc1 hc2
  go_upto_if 30 with fail
  go_cut [] from 31 to 31 (fun U => ∃ R' : Nat, Hid (U.heap[w.heap.size]? = some (boxV ⟨(G : Nat), so2, sn2, sc2, lo2, ln2, lc2, ta2, (R' : Nat)⟩) ∧ Keeps no w U ∧ R' ≤ 8 ∧ (G ≠ 999 ∨ R' = 0)))
  case first =>
    cases bz with
    | true =>
      have b4 := cell_of_blk HB3.out.1 4
      simp only [List.getElem?_toArray, List.getElem?_cons_zero, List.getElem?_cons_succ] at b4
      have f4 := frozen_of_blk HB3.out.1 4
      go_wp2_with fail
      go_meet
      case rel => exact ⟨0, (box_oth HB3.out.1 HB3.out.2 0).1, (box_oth HB3.out.1 HB3.out.2 0).2, by omega, .inr rfl⟩
    | false =>
      have HZ' : Hid (G ≠ 999) := HZ.out rfl
      clear HZ
      go_wp2_with fail
      go_meet
      case rel => exact ⟨R, HB3.out.1, HB3.out.2, HG.out.2, .inl HZ'.out⟩
  case rest =>
  obtain ⟨R', HU⟩ := hcut
  rename World => U
  have c0 := cell_of_blk HU.out.1 0
  have c1 := cell_of_blk HU.out.1 1
  have c2 := cell_of_blk HU.out.1 2
  have c3 := cell_of_blk HU.out.1 3
  have c4 := cell_of_blk HU.out.1 4
  simp only [List.getElem?_toArray, List.getElem?_cons_zero, List.getElem?_cons_succ] at c0 c1 c2 c3 c4
  have HTU : Hid (Tabs U) := HT.out.keepsN HU.out.2.1
  have hW := HS.out.1.keepsN HU.out.2.1
  have hla := laid_any U HTU.out ⟨(G : Nat), so2, sn2, sc2, lo2, ln2, lc2, ta2, (R' : Nat)⟩ sl2 ll2 G R' ⟨hW.gen, hW.tail, ⟨by show _ ≤ ((R' : Nat) : Int); omega, by have := HU.out.2.2.1; show ((R' : Nat) : Int) ≤ _; omega⟩, hW.sn, hW.ln, hW.s, hW.l, hW.sok, hW.lok, hW.slt, hW.llt⟩ rfl HS.out.2.1 HS.out.2.2.1 rfl HU.out.2.2.1 5 (by decide)
  unfold WV.val at hla
  simp only at hla
  clear hW
  go_wp2_with fail
  refine hla.mono ?_
  rintro e w5 ⟨p, q, rfl, HL⟩
  clear hla c0 c1 c2 c3 c4 b0
  obtain ⟨F, bs, N, hH⟩ := laid_held HL.out HS.out.2.2.1 HU.out.2.2.1 HU.out.2.2.2
  generalize recL ll2 = rs at hH
  generalize otS _ _ = s0 at hH
  have H5 : Hid (Held 5 G rs U w5 p q F bs N s0) := hH
  clear hH HL HB3
  have HX : Hid (U.heap[w.heap.size]? = some (boxV ⟨(G : Nat), so2, sn2, sc2, lo2, ln2, lc2, ta2, (R' : Nat)⟩) ∧ w.heap.size < U.heap.size ∧ Keeps no w U) := ⟨HU.out.1, lt_of_block HU.out.1, HU.out.2.1⟩
  clear HU HS
  have hTF : Hid (∀ X s, Held 5 G rs U X p q F bs N s → True) := fun _ _ _ => trivial
  clear hTF
  go_wp2_with fail
  go_loopw [10] (fun i wr => ∃ (k : Nat) (s : Dk.St), k ≤ an ∧ k ≤ 3 ∧ i = .int .i64 k ∧ Hid (Held 5 G rs U wr p q F bs N s)) (fun i _ => an - (intOf i).toNat)
  case atStart => exact ⟨0, s0, by omega, by omega, rfl, H5.out⟩
  case round =>
    obtain ⟨k, s, hk, hk3, rfl, HH⟩ := hrel
    rename World => wq
    clear H5
    by_cases hlt : k < an ∧ k < 3
    · have hlt1 : (k : Int) < an := by omega
      have hlt2 : (k : Int) < 3 := by omega
      have hkl : k < zs.length := by have := HA.out.2.1; omega
      have hsl : Sl IZ wq ao ac zs := HA.out.1.keepsN (HX.out.2.2.trans HH.out.dn.kept)
      obtain ⟨b, off, rfl, d0⟩ := hsl.atZ hkl
      obtain ⟨z, hz⟩ : ∃ z, z = zs.getD k 0 := ⟨_, rfl⟩
      rw [← hz] at d0
      have hzm : z ∈ zs := by rw [hz, List.getD_eq_getElem?_getD, List.getElem?_eq_getElem hkl]; exact List.getElem_mem hkl
      have hr := rest_any z 14 wq (HA.out.2.2.1 z hzm) (by omega)
      change Calls Tryz.prog 17 #[.int .i64 z, .int .i64 14] wq _ at hr
      have hr14 := rst_le z 14
      obtain ⟨R1, hR1⟩ : ∃ R1, R1 = rst z 14 := ⟨_, rfl⟩
      rw [← hR1] at hr hr14
      clear hsl hkl hz hzm hR1
      have har := dn_arm (R1 : Int) keep HH.out.dn rfl ⟨by omega, by omega⟩ HA.out.2.2.2
      have har' : Hid (Calls Tryz.prog 31 _ wq _) := har
      clear har
      go_wp2_with fail
      refine hr.mono ?_
      rintro e w1x ⟨rfl, hw1x⟩
      subst w1x
      clear hr
      go_wp2_with fail
      refine Calls.mono har'.out ?_
      rintro e w6 ⟨rfl, hd6, hk6⟩
      clear har'
      have H6 : Hid (Held1 5 G rs U w6 p q F bs N (Dk.arm (R1 : Int) keep s)) := HH.out.arm _ _ hd6 hk6
      clear hd6 hk6
      generalize Dk.arm (R1 : Int) keep s = s1 at H6
      rcases boot_iv H6.out.iv H6.out.off H6.out.bk H6.out.gd with ⟨s2, hG⟩ | ⟨s2, hG⟩
      · have HG1 : Hid (Good 5 G bs rs s1 s2) := hG
        clear hG
        have hbo := dn_boot H6.out.dn HTU.out H6.out.sz (by decide) HG1.out.boot
        go_wp2_with fail
        refine hbo.mono ?_
        rintro e w7 ⟨q1, l1, rfl, HL1, HS1, D1, K1⟩
        clear hbo
        have H7 : Hid (Held1 5 G rs U w7 p q F bs N s2) := H6.out.good HG1.out D1.out K1.out
        obtain ⟨N1, hN1⟩ := HS1.out
        have hss := sameStores_any hN1.2 H7.out.st (by have := hN1.1; omega) (by have := H7.out.n; omega)
        have c0 := cell_of_blk (H7.out.cell HX.out.2.1 HX.out.1 (Keeps.refl _ _)) 0
        simp only [List.getElem?_toArray, List.getElem?_cons_zero, List.getElem?_cons_succ] at c0
        clear hN1 HS1 HL1
        go_wp2_with fail
        refine hss.mono ?_
        rintro e w8 ⟨rfl, hk8⟩
        clear hss
        have c0 := hk8.cellN c0
        have H8 : Hid (Held1 5 G rs U w8 p q F bs N s2) := H7.out.beside hk8
        have har := dn_arm (-1) 0 H8.out.dn rfl ⟨by omega, by omega⟩ ⟨by omega, by omega⟩
        have har' : Hid (Calls Tryz.prog 31 _ w8 _) := har
        clear har
        go_wp2_with fail
        refine Calls.mono har'.out ?_
        rintro e w9 ⟨rfl, hd9, hk9⟩
        clear har'
        have H9 : Hid (Held 5 G rs U w9 p q F bs N (Dk.arm (-1) 0 s2)) := H8.out.calm 0 hd9 hk9
        clear hd9 hk9
        go_wp2_with fail
        go_roundw
        case rel => exact ⟨k + 1, _, by omega, by omega, by go_num, H9.out⟩
        case measure => simp [intOf] <;> omega
      · have HG1 : Hid (Bad 5 G bs rs s1 s2) := hG
        clear hG
        have hbo := dn_boot_no H6.out.dn HTU.out H6.out.sz (by decide) HG1.out.boot (by decide)
        go_wp2_with fail
        refine hbo.mono ?_
        rintro e w7 ⟨rfl, D1, K1⟩
        clear hbo
        have hdw := down_anyW w7 p F s2 D1.out.is
        rw [HG1.out.down.off] at hdw
        go_wp2_with fail
        refine hdw.mono ?_
        rintro e w1x ⟨rfl, hw1x⟩
        subst w1x
        clear hdw
        have hup := dn_up D1.out rfl
        have hup' : Hid (Calls Tryz.prog 33 _ w7 _) := hup
        clear hup
        go_wp2_with fail
        refine Calls.mono hup'.out ?_
        rintro e w8 ⟨rfl, hd8, hk8⟩
        clear hup'
        have H8 : Hid (Held1 5 G rs U w8 p q F bs N (Dk.up s2)) := H6.out.bad HG1.out hd8 (K1.out.trans hk8)
        clear hd8 hk8
        generalize Dk.up s2 = s3 at H8
        have har := dn_arm (-1) 0 H8.out.dn rfl ⟨by omega, by omega⟩ ⟨by omega, by omega⟩
        have har' : Hid (Calls Tryz.prog 31 _ w8 _) := har
        clear har
        go_wp2_with fail
        refine Calls.mono har'.out ?_
        rintro e w9 ⟨rfl, hd9, hk9⟩
        clear har'
        have H9 : Hid (Held 5 G rs U w9 p q F bs N (Dk.arm (-1) 0 s3)) := H8.out.calm 0 hd9 hk9
        clear hd9 hk9
        go_wp2_with fail
        go_roundw
        case rel => exact ⟨k + 1, _, by omega, by omega, by go_num, H9.out⟩
        case measure => simp [intOf] <;> omega
    · by_cases hl1 : k < an
      · have hlt1 : (k : Int) < an := by omega
        have hlt2 : ¬ (k : Int) < 3 := by omega
        clear hlt hl1 hk3
        obtain ⟨s2, hG2⟩ := HH.out.boot
        have HG2 : Hid (Good 5 G bs rs s s2 ∧ On s2 ∧ Sz s2) := hG2
        clear hG2
        have hbo := dn_boot HH.out.dn HTU.out HH.out.sz (by decide) HG2.out.1.boot
        go_wp2_with fail
        refine hbo.mono ?_
        rintro e w7 ⟨q1, l1, rfl, HL1, HS1, D1, K1⟩
        clear hbo
        have H7 : Hid (Held 5 G rs U w7 p q F bs N s2) := HH.out.after HG2.out D1.out K1.out
        obtain ⟨N1, hN1⟩ := HS1.out
        have hss := sameStores_any hN1.2 H7.out.st (by have := hN1.1; omega) (by have := H7.out.n; omega)
        have c0 := cell_of_blk (H7.out.cell HX.out.2.1 HX.out.1 (Keeps.refl _ _)) 0
        simp only [List.getElem?_toArray, List.getElem?_cons_zero, List.getElem?_cons_succ] at c0
        clear hN1 HS1 HL1
        go_wp2_with fail
        refine hss.mono ?_
        rintro e w8 ⟨rfl, hk8⟩
        clear hss
        have hcl := clean_any (H7.out.dn.beside hk8) HTU.out G HG.out.1 HG2.out.2.1 HG2.out.1.clean
        go_wp2_with fail
        refine hcl.mono ?_
        rintro e wa ⟨rfl, hda, hka⟩
        go_wp2_with fail
        go_ret
        exact ⟨rfl, HX.out.2.2.trans hda.out.kept⟩
      · have hlt1 : ¬ (k : Int) < an := by omega
        clear hlt hl1 hk3
        obtain ⟨s2, hG2⟩ := HH.out.boot
        have HG2 : Hid (Good 5 G bs rs s s2 ∧ On s2 ∧ Sz s2) := hG2
        clear hG2
        have hbo := dn_boot HH.out.dn HTU.out HH.out.sz (by decide) HG2.out.1.boot
        go_wp2_with fail
        refine hbo.mono ?_
        rintro e w7 ⟨q1, l1, rfl, HL1, HS1, D1, K1⟩
        clear hbo
        have H7 : Hid (Held 5 G rs U w7 p q F bs N s2) := HH.out.after HG2.out D1.out K1.out
        obtain ⟨N1, hN1⟩ := HS1.out
        have hss := sameStores_any hN1.2 H7.out.st (by have := hN1.1; omega) (by have := H7.out.n; omega)
        have c0 := cell_of_blk (H7.out.cell HX.out.2.1 HX.out.1 (Keeps.refl _ _)) 0
        simp only [List.getElem?_toArray, List.getElem?_cons_zero, List.getElem?_cons_succ] at c0
        clear hN1 HS1 HL1
        go_wp2_with fail
        refine hss.mono ?_
        rintro e w8 ⟨rfl, hk8⟩
        clear hss
        have hcl := clean_any (H7.out.dn.beside hk8) HTU.out G HG.out.1 HG2.out.2.1 HG2.out.1.clean
        go_wp2_with fail
        refine hcl.mono ?_
        rintro e wa ⟨rfl, hda, hka⟩
        go_wp2_with fail
        go_ret
        exact ⟨rfl, HX.out.2.2.trans hda.out.kept⟩
end Go.Proofs.YtoijeipoblnliaaGreatDoor
