/- WalKeeps: its walk where a record is appended. -/
import Derived.Test.YtgamhblkgojapaaDoorGK7
import Derived.Deep.Light
namespace Go.Proofs.YtgamhblkgojapaaDoor
open Go.RowKit Pk Dk
set_option linter.unusedVariables false
set_option linter.unusedSimpArgs false

set_option maxRecDepth 10000 in
set_option maxHeartbeats 4000000 in
theorem appendWay_any : AppendWay := by
  intro w a0 len0 cap0 l0 HS0 hlb Q_i1 w1 HK1 HT w2 p F0 w3 q0 o3 c3 vs3 HD3 HL3' K_i1 a_i1 wr u2 u11 u12 u13 u14 u15 u16 u17 u18 u19 u20 u21 u22 u23 u24 u25 u26 u27 u28 u45 u46 u47 u48 u49 u50 u51 u52 u53 u54 u55 u56_i1 u57_i1 u58_i1 u59_i1 u60_i1 u61_i1 u62_i1 u63_i1 u64 u65 u66 u67 u68 u69 u70 u71 u72 u73 u74 u75 u76 u77 u78 u79 u80 u81 u82 u83 u84 u85 u86 u87 u88 u89 u90 u91 u92 u93 u94 u95 u96 u97 u98 u99 u100 u101 u102 u103 u104 u105 u106 u107 u108 u109 u110 u111 u112 u113 u114 u115 u116 u117 u118 u119 u120 u121 u122 u123 u124 u125 u126 u127 u128 u129 u130 u131 u132 u133 u134 u135 u136 u137 u138 u139 u140 u141 u142 u143 u144 u145 u146 u147 u148 u149 u150 u151 u152 u153 u154 u155 u156 u157 u158 u159 u160 u161 u162 u163 u164 u165 u166 u167 u168 u169 u170 u171 u172 u173 u174 u175 u176 u177 u178 u179 u180 u181 u182 u183 u184 u185 u186 u187 u188 u189 u190 u191 u192 u193 u194 u195 u196 u197 u198 u199 u200 u201 u202 u203 u204 u205 u206 u207 u208 u209 u210 u211 u212 u213 u214 u215 u216 u217 u218 u219 u220 u221 u222 u223 u224 u225 u226 u227 u228 u229 u230 u231 u232 u233 u234 u235 u236 u237 u238 q oa m ca SQ I F s D la t vs kk hI4 hI0 hSQ hmI HI hle h4 Q_i2 K_i2 a_i2 K_i3 a_i3 V1 HKV BX HBW HBV wc u56 u57 u58 u59 u60 u61 u62 u63 r HKC rv zn zk nm ob nb cb HRV HDc HLc HAc x1 x2 x3 x4 x5 x6 x7 x8 HBX x0
  go_wp2_with fail
  refine (own_v wc rv r HRV.out.1).mono ?_
  rintro e w5 ⟨v5, rfl, HG5, HK5⟩
  clear x0 x1 x2 x3 x4 x5 x6 x7 x8
  go_upto_region 19 with fail
  have hbr := blk_new w5 (.cells #[.int .i64 v5.k, .int .u64 (v5.i : Nat), .slice v5.op v5.np v5.cp, .slice v5.ok v5.nk v5.ck] 28)
  have HK6 : Hid (Keeps no wc (w5.alloc (.cells #[.int .i64 v5.k, .int .u64 (v5.i : Nat), .slice v5.op v5.np v5.cp, .slice v5.ok v5.nk v5.ck] 28))) := HK5.out.alloc _
  have HG6 : Hid (Got wc (w5.alloc (.cells #[.int .i64 v5.k, .int .u64 (v5.i : Nat), .slice v5.op v5.np v5.cp, .slice v5.ok v5.nk v5.ck] 28)) v5 r) := HG5.out.keepsN ((Keeps.refl _ _).alloc _)
  generalize w5.alloc (.cells #[.int .i64 v5.k, .int .u64 (v5.i : Nat), .slice v5.op v5.np v5.cp, .slice v5.ok v5.nk v5.ck] 28) = w6 at hbr HK6 HG6 ⊢
  obtain ⟨R2, hR2⟩ : ∃ R2, R2 = w5.heap.size := ⟨_, rfl⟩
  have HR2 : Hid (wc.heap.size ≤ R2) := by rw [hR2]; exact HK5.out.size
  rw [← hR2] at hbr ⊢
  clear hR2 HG5 HK5
  have HB6 : Hid (w6.heap[R2]? = some (.cells #[.int .i64 v5.k, .int .u64 (v5.i : Nat), .slice v5.op v5.np v5.cp, .slice v5.ok v5.nk v5.ck] 28 (0, 0))) := hbr
  clear hbr
  obtain ⟨x0, x1, x2, x3⟩ := cells4 HB6.out
  go_wp2_with fail
  refine (own_v w6 v5 r HG6.out.isC).mono ?_
  rintro e w7 ⟨v7, rfl, HG7, HK7⟩
  clear x0 x1 x2 x3
  go_wp2_with fail
  refine (build_v w7 v7 r HG7.out.isC (HT.out.keepsN ((HDc.out.kept.trans HK6.out).trans HK7.out))).mono ?_
  rintro e w8 ⟨o8, n8, c8, rfl, -, -, -, HK8⟩
  have HK68 : Hid (Keeps no w6 w8) := HK7.out.trans HK8.out
  have HB8 : Hid (w8.heap[R2]? = some (.cells #[.int .i64 v5.k, .int .u64 (v5.i : Nat), .slice v5.op v5.np v5.cp, .slice v5.ok v5.nk v5.ck] 28 (0, 0))) := HK68.out.at HB6.out (fun h => h)
  have HK8' : Hid (Keeps no wc w8) := HK6.out.trans HK68.out
  have HG8 : Hid (Got wc w8 v5 r) := HG6.out.keepsN HK68.out
  obtain ⟨E, hE0⟩ : ∃ E, E = encE r := ⟨_, rfl⟩
  have HE : Hid (E = encE r ∧ r.id < 18446744073709551616) := ⟨hE0, HRV.out.1.fit.id⟩
  rw [← hE0]
  clear hE0 HG7 HK7 HK8 HB6 HG6 HK6 HK68
  obtain ⟨M, hM1⟩ : ∃ M : Nat, (SQ : Int) % 3 = (M : Int) := ⟨((SQ : Int) % 3).toNat, by omega⟩
  have hM2 : Int.tmod (SQ : Int) 3 = (M : Int) := by rw [Int.tmod_eq_emod_of_nonneg (by omega)]; exact hM1
  go_upto_region 20 with fail
  go_cut [83] from 77 to 82 (fun s wx => ∃ b : Bool, s = .bool b ∧ wx = w8 ∧ Hid (b = false → E = 0))
  case first =>
    by_cases hE : E = 0
    · subst hE
      by_cases hM0 : M = 0
      · subst hM0
        go_wp2_with fail
        go_meet
        go_light
        exact ⟨true, rfl, rfl, by first | exact trivial | exact fun _ => rfl | (intro _; trivial)⟩
      · have hMb : ((M : Int) == 0) = false := by simp; omega
        have hMc : ¬ (M : Int) = 0 := by omega
        go_wp2_with fail
        go_meet
        go_light
        exact ⟨false, rfl, rfl, by first | exact trivial | exact fun _ => rfl | (intro _; trivial)⟩
    · have hE1 : ((E : Int) == 0) = false := by simp; omega
      have hE2 : ¬ (E : Int) = 0 := by omega
      go_wp2_with fail
      go_meet
      go_light
      exact ⟨true, rfl, rfl, by first | exact trivial | (intro h; cases h)⟩
  case rest =>
    rename World => wx
    obtain ⟨bq, rfl, hwx, HBQ⟩ := hcut
    subst wx
    clear hM1 hM2
    go_upto_if 83 with fail
    go_cut [] from 83 to 86 (fun wd => ∃ (v' : CV) (r' : Rec), Hid (wd.heap[R2]? = some (.cells #[.int .i64 v'.k, .int .u64 (v'.i : Nat), .slice v'.op v'.np v'.cp, .slice v'.ok v'.nk v'.ck] 28 (0, 0))) ∧ Hid (Got wc wd v' r' ∧ Gd r') ∧ Hid (Keeps no wc wd))
    case first =>
      cases bq
      · go_wp2_with fail
        go_meet
        go_light
        exact ⟨v5, r, HB8, ⟨HG8.out, gd_of (by rw [← HE.out.1]; exact HBQ.out (by first | rfl | trivial)) HE.out.2⟩, HK8'⟩
      · go_wp2_with fail
        refine (commit_z w8 _ (I + 1) (by omega) (by omega)).mono ?_
        rintro e w9 ⟨rfl, hk9⟩
        have HB9 : Hid (w9.heap[R2]? = some (.cells #[.int .i64 v5.k, .int .u64 (v5.i : Nat), .slice v5.op v5.np v5.cp, .slice v5.ok v5.nk v5.ck] 28 (0, 0))) := hk9.at HB8.out (fun h => h)
        have HK9 : Hid (Keeps no wc w9) := HK8'.out.trans hk9
        clear hk9
        obtain ⟨x0, x1, x2, x3⟩ := cells4 HB9.out
        have f0 := frozen_of_blk HB9.out 0
        have f1 := frozen_of_blk HB9.out 1
        have f2 := frozen_of_blk HB9.out 2
        have f3 := frozen_of_blk HB9.out 3
        go_wp2_with fail
        go_meet
        go_light
        have hs4 := set4 HB9.out (.int .i64 2) (.int .u64 (((I : Int) + 1) * 65536)) (.slice none 0 0) (.slice none 0 0)
        exact ⟨⟨2, (I + 1) * 65536, none, 0, 0, none, 0, 0⟩, cmR (I + 1), by have h := hs4.1; rw [show ((I : Int) + 1) * 65536 = (((I + 1) * 65536 : Nat) : Int) by omega] at h; exact h, ⟨got_cm _ _ (by omega), cmR_gd (by omega) (by omega)⟩, HK9.out.then hs4.2 (fun i hi => .inr (by unfold eqA at hi; have := HR2.out; omega))⟩
    case rest =>
      rename World => wd
      obtain ⟨v', r', HBd, HGd, HKd⟩ := hcut
      go_wp2_with fail
      clear HG8 HB8 HK8' HE HBX HBV HKV HBQ
      have HDd : Hid (Dn w1 wd p F s) := HDc.out.beside HKd.out
      have HLd : Hid (IsL wd q p nlog kk ∧ ¬ F q ∧ w1.heap.size ≤ q ∧ (s.off = false → kk = (rowb D).length)) := ⟨HLc.out.1.keeps HKd.out (fun h => h), HLc.out.2⟩
      have HAd : Hid (Tld w1 wd F oa ca vs (allL D la)) := HAc.out.keepsN HKd.out
      have HFW : Hid (∀ k, F k → k < wc.heap.size) := HDc.out.is.lt
      have HQC : Hid (q < wc.heap.size ∧ w1.heap.size ≤ wc.heap.size) := ⟨lt_of_block HLc.out.1.blk, HDc.out.kept.size⟩
      clear HDc HLc HAc
      refine (down_any wd p F s HDd.out.is).mono ?_
      rintro e w' ⟨rfl, hw⟩
      subst w'
      obtain ⟨OF, hOF⟩ : ∃ OF, OF = s.off := ⟨_, rfl⟩
      have HOF : Hid (OF = s.off) := hOF
      rw [← hOF]
      clear hOF
      cases OF
      · have hla := HI.out.2.on HOF.out.symm
        subst hla
        obtain ⟨x0, x1, x2, x3⟩ := cells4 HBd.out
        go_wp2_with fail
        refine (own_v wd v' r' HGd.out.1.isC).mono ?_
        rintro e w5' ⟨vA, rfl, HGA, HKA⟩
        clear x0 x1 x2 x3
        have HDe : Hid (Dn w1 w5' p F s) := HDd.out.beside HKA.out
        have HLe : Hid (IsL w5' q p nlog kk ∧ ¬ F q ∧ w1.heap.size ≤ q ∧ kk = (rowb D).length) := ⟨HLd.out.1.keeps HKA.out (fun h => h), HLd.out.2.1, HLd.out.2.2.1, HLd.out.2.2.2 HOF.out.symm⟩
        have HAe : Hid (Tld w1 w5' F oa ca vs (allL D none)) := HAd.out.keepsN HKA.out
        have HGe : Hid (Got wc w5' v' r') := HGd.out.1.keepsN HKA.out
        have HBe : Hid (w5'.heap[R2]? = some (.cells #[.int .i64 v'.k, .int .u64 (v'.i : Nat), .slice v'.op v'.np v'.cp, .slice v'.ok v'.nk v'.ck] 28 (0, 0))) := HKA.out.at HBd.out (fun h => h)
        have HDL : Hid (D.length ≤ 400 ∧ (rowb D).length ≤ 419433600) := by have h1 := HI.out.1; have h2 := rowb_len HI.out.2.gd; rw [allL_len] at h1; have h3 : D.length ≤ 400 := (by omega); exact ⟨h3, by omega⟩
        have HKP : Hid (KApp nlog.data.toList (apd nlog.data.toList r' s).1 D r' (apd nlog.data.toList r' s).2) := HI.out.2.apd HOF.out.symm nlog_good HGd.out.2
        have HBS : Hid ((bsOf nlog.data.toList s).length ≤ 419433600) := KInv.bs_le HI.out.2 HDL.out.2
        obtain ⟨pr, hpr⟩ : ∃ pr, apd nlog.data.toList r' s = pr := ⟨_, rfl⟩
        obtain ⟨s', ER⟩ := pr
        rw [hpr] at HKP
        have HPR : Hid (apd nlog.data.toList r' s = (s', ER)) := hpr
        clear hpr HDd HLd HAd HBd
        go_wp2_with fail
        refine (dn_log nlog vA HDe.out HT.out HLe.out.1 HLe.out.2.1 HLe.out.2.2.1 HGA.out.isC HPR.out rfl (by decide) (by have := HLe.out.2.2.2; have := HDL.out.2; omega) (fun _ => fit_of (by have := HBS.out; have := HGd.out.2.enc_len; omega))).mono ?_
        rintro e w6' ⟨rfl, HDf, HLf, HKf⟩
        have HAf : Hid (Tld w1 w6' (grow F w5' w6') oa ca vs (allL D none)) := HAe.out.log HLe.out.1.logBlk HKf.out
        have HR2' : Hid (¬ F R2 ∧ R2 ≠ q ∧ R2 < w5'.heap.size) := ⟨fun h => by have := HFW.out R2 h; have := HR2.out; omega, by have := HQC.out.1; have := HR2.out; omega, lt_of_block HBe.out⟩
        have HBf : Hid (w6'.heap[R2]? = some (.cells #[.int .i64 v'.k, .int .u64 (v'.i : Nat), .slice v'.op v'.np v'.cp, .slice v'.ok v'.nk v'.ck] 28 (0, 0))) := HKf.out.at HBe.out (fun h => by rcases h with h | h; exact HR2'.out.1 h; exact HR2'.out.2.1 h)
        have HQf : Hid (¬ grow F w5' w6' q) := grow_no HLe.out.2.1 (lt_of_block HLe.out.1.blk)
        have HGf : Hid (Got w1 w6' v' r' ∧ ∀ k, v'.blk k → ¬ grow F w5' w6' k) := ⟨(HGe.out.step HKf.out (F := F) (fun k h => by rcases h with h | h; exact .inl h; rw [h]; exact .inr HLe.out.1.logBlk) (fun k h1 h2 => by have := HGe.out.ge k h1; have := HFW.out k h2; omega)).of_le HQC.out.2, fun k h1 => grow_no (fun h2 => by have := HGe.out.ge k h1; have := HFW.out k h2; omega) (HGe.out.lt k h1)⟩
        have HML : Hid (m = (allL D none).length ∧ vs.length = (allL D none).length) := ⟨HI.out.1, HAe.out.len⟩
        have HQ1 : Hid (w1.heap.size ≤ q ∧ kk = (rowb D).length) := HLe.out.2.2
        generalize grow F w5' w6' = G at HDf HAf HQf HGf
        clear HDe HLe HAe HGe HBe HKf HPR HGA HKA HR2'
        cases HKP.out with
        | done hI ho =>
          rw [if_pos rfl] at HLf
          have HIn : Hid (KInv nlog.data.toList s' (D ++ [r']) none []) := hI
          clear hI ho
          obtain ⟨x0, x1, x2, x3⟩ := cells4 HBf.out
          have HKg : Hid (Keeps no w6' (w6'.alloc (.cells #[.int .i64 v'.k, .int .u64 (v'.i : Nat), .slice v'.op v'.np v'.cp, .slice v'.ok v'.nk v'.ck, .bool true] 59))) := (Keeps.refl _ _).alloc _
          have HN1 : Hid (Sl KE (w6'.alloc (.cells #[.int .i64 v'.k, .int .u64 (v'.i : Nat), .slice v'.op v'.np v'.cp, .slice v'.ok v'.nk v'.ck, .bool true] 59)) (some ⟨w6'.heap.size, 0, none⟩) 1 [(v', true)]) := own_oneK w6' (v', true)
          have HAg : Hid (Tld w1 (w6'.alloc (.cells #[.int .i64 v'.k, .int .u64 (v'.i : Nat), .slice v'.op v'.np v'.cp, .slice v'.ok v'.nk v'.ck, .bool true] 59)) G oa ca vs (allL D none)) := HAf.out.keepsN HKg.out
          go_wp2_with (at_builtin; go_must (refine wpList_app okK rfl _ _ rfl oa m ca vs rfl (by have := HML.out; omega) HAg.out.own _ _ _ [(v', true)] rfl rfl (fun h => by cases h) HN1.out.row (by have := HML.out; simp [KE]; omega) (by have := HML.out; simp; omega) ?_); intro o' c' w7' ho' hap; have HO7 : Hid (Own KE w7' o' c' (vs ++ [(v', true)])) := ho'; have HAP : Hid (Ap (w6'.alloc (.cells #[.int .i64 v'.k, .int .u64 (v'.i : Nat), .slice v'.op v'.np v'.cp, .slice v'.ok v'.nk v'.ck, .bool true] 59)) oa o' w7') := hap; clear ho' hap x0 x1 x2 x3)
          have HDg : Hid (Dn w1 w7' p G s') := HAg.out.dn_ap (HDf.out.beside HKg.out) HAP.out
          have HLg : Hid (IsL w7' q p nlog (kk + (enc r').length)) := HAg.out.log_ap (HLf.out.keeps HKg.out (fun h => h)) HAP.out
          have HAh : Hid (Tld w1 w7' G o' c' (vs ++ [(v', true)]) (allL D none ++ [(r', true)])) := HAg.out.push (HDf.out.kept.trans HKg.out) (fun k hk => by have := HDf.out.is.lt k hk; have := HKg.out.size; omega) (HGf.out.1.keepsN HKg.out) HGf.out.2 rfl HO7.out HAP.out
          clear HKg HN1 HAg HAP HO7 HDf HLf HAf HBf HGf
          rw [← allL_done] at HAh
          have HKK : Hid (kk + (enc r').length = (rowb (D ++ [r'])).length) := by show _ = _; rw [rowb_snoc, List.length_append, ← HQ1.out.2]
          refine (dn_size nlog HDg.out (s' := tick s') (m := (readB nlog.data.toList (tick s')).length) (er := readE nlog.data.toList (tick s')) rfl rfl rfl (by decide)).mono ?_
          rintro e w8' ⟨rfl, HDh, HKh⟩
          have HLh : Hid (IsL w8' q p nlog (kk + (enc r').length)) := HLg.out.keeps HKh.out HQf.out
          have HAi : Hid (Tld w1 w8' G o' c' (vs ++ [(v', true)]) (allL (D ++ [r']) none)) := HAh.out.keepsF HKh.out
          have HIt : Hid (KInv nlog.data.toList (tick s') (D ++ [r']) none []) := HIn.out.tick
          have hsz := HIt.out.size
          have hm1 : (m : Int) + 1 ≤ I + 1 := by omega
          have HM1 : Hid (m + 1 = (allL (D ++ [r']) none).length) := by rw [allL_done]; simp; exact HI.out.1
          clear HDg HLg HAh HIn HKh
          rcases hsz with h | ⟨h, hl⟩ | ⟨h, hl⟩
          · rw [h]
            go_wp2_with fail
            go_roundw
            case rel => go_light; exact ⟨q, o', m + 1, c', SQ + 1, I + 1, G, tick s', D ++ [r'], none, [], vs ++ [(v', true)], kk + (enc r').length, rfl, rfl, by go_num, by go_num, by omega, by omega, by omega, by omega, ⟨HM1.out, HIt.out⟩, HDh, ⟨HLh.out, HQf.out, HQ1.out.1, fun _ => HKK.out⟩, HAi⟩
            case measure => go_light; simp [intOf]; omega
          · rw [h, hl, ← HKK.out]
            clear h hl
            generalize kk + (enc r').length = KN at HLh HKK ⊢
            go_wp2_with fail
            refine (LogSize_any w8' q p nlog KN HLh.out).mono ?_
            rintro e w' ⟨rfl, hw⟩
            subst w'
            go_wp2_with fail
            go_roundw
            case rel => go_light; exact ⟨q, o', m + 1, c', SQ + 1, I + 1, G, tick s', D ++ [r'], none, [], vs ++ [(v', true)], KN, rfl, rfl, by go_num, by go_num, by omega, by omega, by omega, by omega, ⟨HM1.out, HIt.out⟩, HDh, ⟨HLh.out, HQf.out, HQ1.out.1, fun _ => HKK.out⟩, HAi⟩
            case measure => go_light; simp [intOf]; omega
          · simp at hl
        | down t' hI ho =>
          rw [if_neg (by decide)] at HLf
          have HIn : Hid (KInv nlog.data.toList s' D (some r') t' ∧ s'.off = true) := ⟨hI, ho⟩
          clear hI ho
          obtain ⟨x0, x1, x2, x3⟩ := cells4 HBf.out
          have HKg : Hid (Keeps no w6' (w6'.alloc (.cells #[.int .i64 v'.k, .int .u64 (v'.i : Nat), .slice v'.op v'.np v'.cp, .slice v'.ok v'.nk v'.ck, .bool false] 59))) := (Keeps.refl _ _).alloc _
          have HN1 : Hid (Sl KE (w6'.alloc (.cells #[.int .i64 v'.k, .int .u64 (v'.i : Nat), .slice v'.op v'.np v'.cp, .slice v'.ok v'.nk v'.ck, .bool false] 59)) (some ⟨w6'.heap.size, 0, none⟩) 1 [(v', false)]) := own_oneK w6' (v', false)
          have HAg : Hid (Tld w1 (w6'.alloc (.cells #[.int .i64 v'.k, .int .u64 (v'.i : Nat), .slice v'.op v'.np v'.cp, .slice v'.ok v'.nk v'.ck, .bool false] 59)) G oa ca vs (allL D none)) := HAf.out.keepsN HKg.out
          go_wp2_with (at_builtin; go_must (refine wpList_app okK rfl _ _ rfl oa m ca vs rfl (by have := HML.out; omega) HAg.out.own _ _ _ [(v', false)] rfl rfl (fun h => by cases h) HN1.out.row (by have := HML.out; simp [KE]; omega) (by have := HML.out; simp; omega) ?_); intro o' c' w7' ho' hap; have HO7 : Hid (Own KE w7' o' c' (vs ++ [(v', false)])) := ho'; have HAP : Hid (Ap (w6'.alloc (.cells #[.int .i64 v'.k, .int .u64 (v'.i : Nat), .slice v'.op v'.np v'.cp, .slice v'.ok v'.nk v'.ck, .bool false] 59)) oa o' w7') := hap; clear ho' hap x0 x1 x2 x3)
          have HDg : Hid (Dn w1 w7' p G s') := HAg.out.dn_ap (HDf.out.beside HKg.out) HAP.out
          have HLg : Hid (IsL w7' q p nlog kk) := HAg.out.log_ap (HLf.out.keeps HKg.out (fun h => h)) HAP.out
          have HAh : Hid (Tld w1 w7' G o' c' (vs ++ [(v', false)]) (allL D none ++ [(r', false)])) := HAg.out.push (HDf.out.kept.trans HKg.out) (fun k hk => by have := HDf.out.is.lt k hk; have := HKg.out.size; omega) (HGf.out.1.keepsN HKg.out) HGf.out.2 rfl HO7.out HAP.out
          clear HKg HN1 HAg HAP HO7 HDf HLf HAf HBf HGf
          rw [← allL_down] at HAh
          have HM1 : Hid (m + 1 = (allL D (some r')).length) := by rw [allL_down]; simp; exact HI.out.1
          go_roundw
          case rel => go_light; exact ⟨q, o', m + 1, c', SQ + 1, I + 1, G, s', D, some r', t', vs ++ [(v', false)], kk, rfl, rfl, by go_num, by go_num, by omega, by omega, by omega, by omega, ⟨HM1.out, HIn.out.1⟩, HDg, ⟨HLg.out, HQf.out, HQ1.out.1, fun h => by rw [HIn.out.2] at h; cases h⟩, HAh⟩
          case measure => go_light; simp [intOf]; omega
        | full hI ho =>
          rw [if_neg (by decide)] at HLf
          have HIn : Hid (KInv nlog.data.toList s' D none []) := hI
          clear hI ho
          go_wp2_with fail
          go_roundw
          case rel => go_light; exact ⟨q, oa, m, ca, SQ + 1, I + 1, G, s', D, none, [], vs, kk, rfl, rfl, by go_num, by go_num, by omega, by omega, by omega, by omega, ⟨HI.out.1, HIn.out⟩, HDf, ⟨HLf.out, HQf.out, HQ1.out.1, fun _ => HQ1.out.2⟩, HAf⟩
          case measure => go_light; simp [intOf]; omega
      · go_wp2_with fail
        go_roundw
        case rel => go_light; exact ⟨q, oa, m, ca, SQ + 1, I + 1, F, s, D, la, t, vs, kk, rfl, rfl, by go_num, by go_num, by omega, by omega, by omega, by omega, HI, HDd, HLd, HAd⟩
        case measure => go_light; simp [intOf]; omega
end Go.Proofs.YtgamhblkgojapaaDoor
