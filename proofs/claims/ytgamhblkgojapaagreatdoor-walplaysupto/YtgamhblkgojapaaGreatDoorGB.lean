/- The laws' alive: its walk. -/
import Derived.Test.YtgamhblkgojapaaGreatDoorGP
namespace Go.Proofs.YtgamhblkgojapaaGreatDoor
open Go.RowKit Pk Dk
set_option linter.unusedVariables false
set_option linter.unusedSimpArgs false

set_option maxRecDepth 10000 in
set_option maxHeartbeats 2000000 in
theorem alive_any (w : World) (ht : TabIn w) : Calls Tryz.prog 4 #[] w fun e w' => e = .returned (.bool true) ∧ Keeps no w w' := by
  have HT : Hid (TabIn w) := ht
  have HNG : Hid (good nl0.data.toList = true) := nl0_good
  clear ht
  go_enter Tryz.func4, Tryz.ntmps4
  go_wp2_with fail
  refine (dn_new w).mono ?_
  rintro e w1 ⟨p, rfl, HD1, HK1⟩
  generalize (fun k => w.heap.size ≤ k ∧ k < w1.heap.size) = F1 at HD1
  go_wp2_with fail
  refine (dn_open nl0 HD1.out HT.out (opn_gone (s := Dk.new) ⟨rfl, rfl⟩ rfl) (by decide) (by decide)).mono ?_
  rintro e w2 ⟨q, o2, m2, c2, vs2, rfl, hm, HL2, _, HD2, HK2⟩
  obtain rfl : m2 = 0 := hm.out
  have HW2 : Hid (w.heap.size ≤ w1.heap.size ∧ q < w2.heap.size) := ⟨HK1.out.size, lt_of_block HL2.out.1.blk⟩
  clear hm HK2 HD1
  go_wp2_with fail
  refine (LogSize_any w2 q p nl0 0 HL2.out.1).mono ?_
  rintro e w' ⟨rfl, hw⟩
  subst w'
  go_wp2_with fail
  refine (LogName_any w2 q p nl0 0 HL2.out.1).mono ?_
  rintro e w' ⟨rfl, hw⟩
  subst w'
  simp only [nl0]
  go_wp2_with fail
  refine (commit_any w2 1 (by omega)).mono ?_
  rintro e w3 ⟨rfl, hk3⟩
  have HD3 : Hid (Dn w w3 p F1 Dk.new) := HD2.out.beside hk3
  have HL3 : Hid (IsL w3 q p nl0 0) := HL2.out.1.keeps hk3 (fun h => h)
  have HW3 : Hid (q < w3.heap.size) := by have := HW2.out; have := hk3.size; exact (by omega : q < w3.heap.size)
  clear hk3
  go_wp2_with fail
  refine (dn_log nl0 ⟨2, 65536, none, 0, 0, none, 0, 0⟩ HD3.out HT.out HL3.out HL2.out.2.2 (by have := HL2.out.2.1; have := HW2.out; omega) (cmR_isC w3 (q := 1) (by omega)) (al1 _ HNG.out) (k' := 17) (by rw [if_pos rfl, cmR_enc]) (by decide) (by decide) (fun _ => fit_of (by rw [cmR_enc]; decide))).mono ?_
  rintro e w4 ⟨rfl, HD4, HL4, HK4⟩
  have HQ4 : Hid (¬ grow F1 w3 w4 q) := grow_no HL2.out.2.2 HW3.out
  have HW4 : Hid (w.heap.size ≤ q ∧ q < w4.heap.size) := ⟨by have := HL2.out.2.1; have := HW2.out; omega, lt_of_block HL4.out.blk⟩
  generalize grow F1 w3 w4 = F4 at HD4 HQ4
  clear HD3 HL3 HW3 HK4 HL2 HD2 HW2
  go_wp2_with fail
  refine (LogSize_any w4 q p nl0 17 HL4.out).mono ?_
  rintro e w' ⟨rfl, hw⟩
  subst w'
  go_wp2_with fail
  refine (dn_read nl0 HD4.out (s' := sg nl0.data.toList (some (fl (cb 1))) false 0 (-1) 0) (b := cb 1) (er := 0) (sg_tickN ..) (sg_readB ..) (sg_readE ..) (by decide) (by rw [cb_len]; decide)).mono ?_
  rintro e w5 ⟨ob, cbb, mb, rfl, hmb, hob, hnb, hd5, hk5⟩
  have hmm : mb = 17 := by rw [hmb.out, cb_len]
  subst hmm
  have HD5 : Hid (Dn w w5 p F4 (sg nl0.data.toList (some (fl (cb 1))) false 0 (-1) 0)) := hd5
  have HL5 : Hid (IsL w5 q p nl0 17) := HL4.out.keeps hk5 HQ4.out
  have HOB : Hid (Own BU w5 ob cbb (cb 1)) := hob
  have HNB : Hid (∀ k, inO ob k → ¬ F4 k) := fun k hk hF => by have := hnb k hk; have := HD4.out.is.lt k hF; omega
  have HW5 : Hid (w4.heap.size ≤ w5.heap.size) := hk5.size
  obtain ⟨gb, hgb⟩ : ∃ gb, ob = some ⟨gb, 0, none⟩ := by
    rcases hob.shape with ⟨_, _, e⟩ | ⟨g, _, e, _⟩
    · have := cb_len 1; rw [e] at this; simp at this
    · exact ⟨g, e⟩
  subst hgb
  have hcap : (17 : Int) ≤ cbb := by have := hob.cap.1; rw [cb_len] at this; omega
  clear hd5 hk5 hob hnb HD4 hmb
  go_wp2_with fail
  refine (LogSize_any w5 q p nl0 17 HL5.out).mono ?_
  rintro e w' ⟨rfl, hw⟩
  subst w'
  go_wp2_with fail
  refine (dn_append nl0 (some ⟨gb, 0, none⟩) 5 cbb ((cb 1).take 5) HD5.out (al2 _ HNG.out) (by decide) (by rw [List.length_take, cb_len]; rfl) (HOB.out.cut okU (by rw [cb_len]; decide)).sl HNB.out (by rw [List.length_take, cb_len]; decide) (fit_of (by rw [sg_bs, List.length_take]; simp only [bsX, fl, cb_len]; decide))).mono ?_
  rintro e w6 ⟨rfl, hd6, hk6⟩
  have HD6 : Hid (Dn w w6 p (grow F4 w5 w6) (sg nl0.data.toList (some ⟨cb 1 ++ (cb 1).take 5, (cb 1).length⟩) false 0 (-1) 0)) := hd6
  have HQ6 : Hid (¬ grow F4 w5 w6 q) := grow_no HQ4.out (by have := HW4.out; have := HW5.out; omega)
  generalize grow F4 w5 w6 = F6 at HD6 HQ6
  clear hd6 hk6 HD5 HL5 HOB HNB HL4
  go_wp2_with fail
  refine (dn_crash 3 HD6.out rfl (by unfold i64; omega)).mono ?_
  rintro e w7 ⟨rfl, hd7, hk7⟩
  have HD7 : Hid (Dn w w7 p F6 (crash 3 (sg nl0.data.toList (some ⟨cb 1 ++ (cb 1).take 5, (cb 1).length⟩) false 0 (-1) 0))) := hd7
  clear hd7 hk7 HD6
  go_wp2_with fail
  refine (dn_up HD7.out (al3 _)).mono ?_
  rintro e w8 ⟨rfl, hd8, hk8⟩
  have HD8 : Hid (Dn w w8 p F6 (sg nl0.data.toList (some (fl (cb 1 ++ (cb 1).take 3))) false 0 (-1) 0)) := hd8
  clear hd8 hk8 HD7
  go_wp2_with fail
  refine (dn_open nl0 HD8.out HT.out (al4 _) (by decide) (Nat.le_trans (readB_le _ _) (by rw [sg_bs]; simp only [bsX, fl, List.length_append, List.length_take, cb_len]; decide))).mono ?_
  rintro e w9 ⟨r, os, ms, cs, vs, rfl, hm, HL9, HS9, HD9, HK9⟩
  obtain rfl : ms = 1 := hm.out
  have HF8 : Hid ((∀ k, F6 k → k < w8.heap.size) ∧ w.heap.size ≤ w8.heap.size) := ⟨HD8.out.is.lt, HD8.out.kept.size⟩
  clear hm HD8
  go_wp2_with fail
  refine (dn_size nl0 HD9.out (s' := sg nl0.data.toList (some (fl (cb 1))) false 0 (-1) 0) (m := 17) (er := 0) (sg_tickN ..) (by rw [sg_readB]; exact cb_len 1) (sg_readE ..) (by decide)).mono ?_
  rintro e wA ⟨rfl, HDA, HKA⟩
  have HLA : Hid (IsL wA r p nl0 17 ∧ ¬ F6 r ∧ w.heap.size ≤ r) := ⟨HL9.out.1.keeps HKA.out HL9.out.2.2, HL9.out.2.2, by have := HL9.out.2.1; have := HF8.out.2; omega⟩
  have HSA : Hid (Scn w8 wA os cs vs [cmR 1]) := HS9.out.keepsF HKA.out HF8.out.1
  obtain ⟨g, rfl, hc⟩ := HSA.out.own.atC0 (by rw [HSA.out.len]; decide)
  obtain ⟨d0, d1, d2, d3⟩ := hc 0 (by rw [HSA.out.len]; decide)
  have HC1 : Hid (IsC wA (vs.getD 0 cv0) (cmR 1)) := (HSA.out.each 0 (by decide)).isC
  generalize vs.getD 0 cv0 = v1 at d0 d1 d2 d3 HC1
  obtain ⟨k1, i1, op1, np1, cp1, ok1, nk1, ck1⟩ := v1
  simp only [Nat.zero_mul, Nat.zero_add] at d0 d1 d2 d3
  have HST : Hid (∀ w', Keeps no wA w' → w'.cell? ⟨g, 0, none⟩ = some (.int .i64 k1) ∧ w'.cell? ⟨g, 1, none⟩ = some (.int .u64 (i1 : Nat)) ∧ w'.cell? ⟨g, 2, none⟩ = some (.slice op1 np1 cp1) ∧ w'.cell? ⟨g, 3, none⟩ = some (.slice ok1 nk1 ck1)) := fun w' hk => ⟨hk.cellN d0, hk.cellN d1, hk.cellN d2, hk.cellN d3⟩
  clear hc HSA HS9 HL9 HD9 HK9 HKA
  go_wp2_with fail
  go_region_held3 (fun w' => w'.cell? ⟨g, 0, none⟩ = some (.int .i64 k1) ∧ w'.cell? ⟨g, 1, none⟩ = some (.int .u64 (i1 : Nat)) ∧ w'.cell? ⟨g, 2, none⟩ = some (.slice op1 np1 cp1) ∧ w'.cell? ⟨g, 3, none⟩ = some (.slice ok1 nk1 ck1)) (first | exact HST.out _ K2.out | exact HST.out _ K1.out | exact HST.out _ ((Keeps.refl no wA).drew) | exact HST.out _ (Keeps.refl no wA)) ((first | (go_at_call 13; refine (LogSize_any _ r p nl0 17 (HLA.out.1.keeps K2.out (fun h => h))).mono ?_; rintro e u3 ⟨rfl, hw⟩; subst u3) | (go_at_call 33; refine (sameRecord_any _ k1 i1 op1 np1 cp1 ok1 nk1 ck1 (cmR 1) (HC1.out.keepsN K1.out) 2 65536 none 0 0 none 0 0 (cmR 1) (cmR_isC _ (q := 1) (by omega))).mono ?_; rintro e u2 ⟨⟨B1, rfl, hB1⟩, hk⟩; have hB1t : B1 = true := hB1.out.2 rfl; subst hB1t; have K2 : Hid (Keeps no wA u2) := K1.out.trans hk; clear hB1 hk) | (go_at_call 30; refine (commit_any _ 1 (by omega)).mono ?_; rintro e u1 ⟨rfl, hk⟩; have K1 : Hid (Keeps no wA u1) := (Keeps.refl no wA).drew.trans hk; clear hk)))
  rename _ ∧ _ => hh
  clear hh d0 d1 d2 d3 HST HC1
  have HDB : Hid (Dn w u2 p F6 (sg nl0.data.toList (some (fl (cb 1))) false 0 (-1) 0)) := HDA.out.beside K2.out
  have HLB : Hid (IsL u2 r p nl0 17 ∧ ¬ F6 r ∧ w.heap.size ≤ r) := ⟨HLA.out.1.keeps K2.out (fun h => h), HLA.out.2⟩
  clear K1 K2 HDA HLA
  go_wp2_with fail
  refine (dn_full 1 HDB.out rfl (by unfold i64; omega)).mono ?_
  rintro e wC ⟨rfl, HDC, HKC⟩
  have HLC : Hid (IsL wC r p nl0 17) := HLB.out.1.keeps HKC.out HLB.out.2.1
  clear HKC HDB
  go_wp2_with fail
  refine (commit_any wC 2 (by omega)).mono ?_
  rintro e wD ⟨rfl, hk⟩
  have HDD : Hid (Dn w wD p F6 (full 1 (sg nl0.data.toList (some (fl (cb 1))) false 0 (-1) 0))) := HDC.out.beside hk
  have HLD : Hid (IsL wD r p nl0 17) := HLC.out.keeps hk (fun h => h)
  clear hk HDC HLC
  go_wp2_with fail
  refine (dn_log nl0 ⟨2, 131072, none, 0, 0, none, 0, 0⟩ HDD.out HT.out HLD.out HLB.out.2.1 HLB.out.2.2 (cmR_isC wD (q := 2) (by omega)) (al5 _ HNG.out) (k' := 17) (by rw [if_neg (by decide)]) (by decide) (by decide) (fun _ => fit_of (by rw [sg_full, sg_bs, cmR_enc]; simp only [bsX, fl, cb_len]; decide))).mono ?_
  rintro e wE ⟨rfl, HDE, HLE, HKE⟩
  have HQE : Hid (¬ grow F6 wD wE r) := grow_no HLB.out.2.1 (lt_of_block HLD.out.blk)
  generalize grow F6 wD wE = FE at HDE HQE
  clear HKE HDD HLD
  go_wp2_with fail
  refine (dn_arm 1 100 HDE.out rfl (by unfold i64; omega) (by unfold i64; omega)).mono ?_
  rintro e wG ⟨rfl, hdg, hk⟩
  have HDG : Hid (Dn w wG p FE (arm 1 100 (sg nl0.data.toList (some (fl (cb 1))) false 0 (-1) 0))) := hdg
  have HLG : Hid (IsL wG r p nl0 17) := HLE.out.keeps hk HQE.out
  clear hk hdg HDE HLE
  go_wp2_with fail
  refine (commit_any wG 3 (by omega)).mono ?_
  rintro e wH ⟨rfl, hk⟩
  have HDH : Hid (Dn w wH p FE (arm 1 100 (sg nl0.data.toList (some (fl (cb 1))) false 0 (-1) 0))) := HDG.out.beside hk
  have HLH : Hid (IsL wH r p nl0 17) := HLG.out.keeps hk (fun h => h)
  clear hk HDG HLG
  go_wp2_with fail
  refine (dn_log nl0 ⟨2, 196608, none, 0, 0, none, 0, 0⟩ HDH.out HT.out HLH.out HQE.out HLB.out.2.2 (cmR_isC wH (q := 3) (by omega)) (al6 _ HNG.out) (k' := 17) (by rw [if_neg (by decide)]) (by decide) (by decide) (fun _ => fit_of (by rw [sg_arm, sg_bs, cmR_enc]; simp only [bsX, fl, cb_len]; decide))).mono ?_
  rintro e wI ⟨rfl, HDI, HLI, HKI⟩
  generalize grow FE wH wI = FI at HDI
  clear HKI HDH HLH HLI HQE HLB
  go_wp2_with fail
  refine (dn_up HDI.out rfl).mono ?_
  rintro e wJ ⟨rfl, hdj, hk⟩
  have HDJ : Hid (Dn w wJ p FI (up (sg nl0.data.toList (some (fl (cb 1 ++ cb 3))) true 0 (-1) 100))) := hdj
  clear hdj hk HDI
  go_wp2_with fail
  refine (dn_open nl0 HDJ.out HT.out (al7 _) (by decide) (Nat.le_trans (readB_le _ _) (by rw [sg_up, sg_bs]; simp only [bsX, fl, List.length_append, cb_len]; decide))).mono ?_
  rintro e wK ⟨z, oz, mz, cz, vz, rfl, hm, _, HSK, HDK, HKK⟩
  obtain rfl : mz = 2 := hm.out
  obtain ⟨g2, rfl, hc⟩ := HSK.out.own.atC0 (by rw [HSK.out.len]; decide)
  obtain ⟨d0, d1, d2, d3⟩ := hc 1 (by rw [HSK.out.len]; decide)
  have HC1 : Hid (IsC wK (vz.getD 1 cv0) (cmR 3)) := (HSK.out.each 1 (by decide)).isC
  generalize vz.getD 1 cv0 = v2 at d0 d1 d2 d3 HC1
  obtain ⟨k2, i2, op2, np2, cp2, ok2, nk2, ck2⟩ := v2
  simp only [Nat.one_mul, Nat.reduceAdd] at d0 d1 d2 d3
  have HST : Hid (∀ w', Keeps no wK w' → w'.cell? ⟨g2, 4, none⟩ = some (.int .i64 k2) ∧ w'.cell? ⟨g2, 5, none⟩ = some (.int .u64 (i2 : Nat)) ∧ w'.cell? ⟨g2, 6, none⟩ = some (.slice op2 np2 cp2) ∧ w'.cell? ⟨g2, 7, none⟩ = some (.slice ok2 nk2 ck2)) := fun w' hk => ⟨hk.cellN d0, hk.cellN d1, hk.cellN d2, hk.cellN d3⟩
  clear hc HSK hm HDJ HKK
  go_wp2_with fail
  go_region_held3 (fun w' => w'.cell? ⟨g2, 4, none⟩ = some (.int .i64 k2) ∧ w'.cell? ⟨g2, 5, none⟩ = some (.int .u64 (i2 : Nat)) ∧ w'.cell? ⟨g2, 6, none⟩ = some (.slice op2 np2 cp2) ∧ w'.cell? ⟨g2, 7, none⟩ = some (.slice ok2 nk2 ck2)) (first | exact HST.out _ K2.out | exact HST.out _ K1.out | exact HST.out _ ((Keeps.refl no wK).drew) | exact HST.out _ (Keeps.refl no wK)) ((first | (go_at_call 33; refine (sameRecord_any _ k2 i2 op2 np2 cp2 ok2 nk2 ck2 (cmR 3) (HC1.out.keepsN K1.out) 2 196608 none 0 0 none 0 0 (cmR 3) (cmR_isC _ (q := 3) (by omega))).mono ?_; rintro e u4 ⟨⟨B1, rfl, hB1⟩, hk⟩; have hB1t : B1 = true := hB1.out.2 rfl; subst hB1t; have K2 : Hid (Keeps no wK u4) := K1.out.trans hk; clear hB1 hk) | (go_at_call 30; refine (commit_any _ 3 (by omega)).mono ?_; rintro e u3 ⟨rfl, hk⟩; have K1 : Hid (Keeps no wK u3) := (Keeps.refl no wK).drew.trans hk; clear hk)))
  rename _ ∧ _ => hh
  clear hh d0 d1 d2 d3 HST HC1
  have HDZ : Hid (Keeps no w u4) := HDK.out.kept.trans K2.out
  go_wp2_with fail
  go_ret
  exact ⟨rfl, HDZ.out⟩
end Go.Proofs.YtgamhblkgojapaaGreatDoor
