/- WalKeeps: its walk where the log is opened anew. -/
import Derived.Test.YtgamhblkgojapaaDoorGK7
import Derived.Deep.Light
namespace Go.Proofs.YtgamhblkgojapaaDoor
open Go.RowKit Pk Dk
set_option linter.unusedVariables false
set_option linter.unusedSimpArgs false

set_option maxRecDepth 10000 in
set_option maxHeartbeats 4000000 in
theorem openWay_any : OpenWay := by
  intro w a0 len0 cap0 l0 HS0 hlb Q_i1 w1 HK1 HT w2 p F0 w3 q0 o3 c3 vs3 HD3 HL3' K_i1 a_i1 wr u2 u11 u12 u13 u14 u15 u16 u17 u18 u19 u20 u21 u22 u23 u24 u25 u26 u27 u28 u45 u46 u47 u48 u49 u50 u51 u52 u53 u54 u55 u56_i1 u57_i1 u58_i1 u59_i1 u60_i1 u61_i1 u62_i1 u63_i1 u64 u65 u66 u67 u68 u69 u70 u71 u72 u73 u74 u75 u76 u77 u78 u79 u80 u81 u82 u83 u84 u85 u86 u87 u88 u89 u90 u91 u92 u93 u94 u95 u96 u97 u98 u99 u100 u101 u102 u103 u104 u105 u106 u107 u108 u109 u110 u111 u112 u113 u114 u115 u116 u117 u118 u119 u120 u121 u122 u123 u124 u125 u126 u127 u128 u129 u130 u131 u132 u133 u134 u135 u136 u137 u138 u139 u140 u141 u142 u143 u144 u145 u146 u147 u148 u149 u150 u151 u152 u153 u154 u155 u156 u157 u158 u159 u160 u161 u162 u163 u164 u165 u166 u167 u168 u169 u170 u171 u172 u173 u174 u175 u176 u177 u178 u179 u180 u181 u182 u183 u184 u185 u186 u187 u188 u189 u190 u191 u192 u193 u194 u195 u196 u197 u198 u199 u200 u201 u202 u203 u204 u205 u206 u207 u208 u209 u210 u211 u212 u213 u214 u215 u216 u217 u218 u219 u220 u221 u222 u223 u224 u225 u226 u227 u228 u229 u230 u231 u232 u233 u234 u235 u236 u237 u238 q oa m ca SQ I F s D la t vs kk hI4 hI0 hSQ hmI HI hle h4 Q_i2 K_i2 a_i2 K_i3 a_i3 V1 HKV BX HBW HBV wc u56 u57 u58 u59 u60 u61 u62 u63 r HKC rv zn zk nm ob nb cb HRV HDc HLc HAc x1 x2 x3 x4 x5 x6 x7 x8 HBX x0
  go_wp2_with fail
  clear x0 x1 x2 x3 x4 x5 x6 x7 x8
  refine (dn_up HDc.out rfl).mono ?_
  rintro e w5 ⟨rfl, hd5, hk5⟩
  have HD5 : Hid (Dn w1 w5 p F (up s)) := hd5
  have HK5 : Hid (Keeps F wc w5) := hk5
  obtain ⟨rs, s', hO, hI', hoff, htk, hrs, hbl⟩ := HI.out.2.opn
  have HO : Hid (Opn nlog.data.toList (up s) s' 0 (rowb rs).length rs) := hO
  have HI' : Hid (KInv nlog.data.toList s' rs none [] ∧ s'.off = false ∧ tick s' = s') := ⟨hI', hoff, htk⟩
  have HRG : Hid (Right rs (allL D la)) := right_of hrs
  have HDL : Hid (D.length ≤ 400 ∧ (rowb D).length ≤ 419433600 ∧ rs.length ≤ m ∧ rs.length ≤ 400 ∧ (rowb rs).length ≤ 419433600) := by
    have h1 := HI.out.1
    have h2 := rowb_len HI.out.2.gd
    have h5 := rowb_len hI'.gd
    have h4 := HRG.out.le
    rw [← h1] at h4
    rw [allL_len] at h1
    have h3 : D.length ≤ 400 := (by omega)
    have h6 : rs.length ≤ 400 := (by omega)
    exact ⟨h3, by omega, h4, h6, by omega⟩
  have HBL : Hid ((bsOf nlog.data.toList (up s)).length ≤ 1099511627776) := (by have := HDL.out.2.1; exact (by omega : (bsOf nlog.data.toList (up s)).length ≤ 1099511627776))
  clear hd5 hk5 hO hI' hoff htk hrs hbl
  have HA5 : Hid (Tld w1 w5 F oa ca vs (allL D la)) := HAc.out.keepsF HK5.out
  go_wp2_with fail
  refine (dn_open nlog HD5.out HT.out HO.out (by decide) (Nat.le_trans (readB_le _ _) HBL.out)).mono ?_
  rintro e w6 ⟨q', oA, mA, cA, vA, rfl, HMA, HL6, HS6, HD6, HK6⟩
  have HA6 : Hid (Tld w1 w6 F oa ca vs (allL D la)) := HA5.out.keepsF HK6.out
  have HF5 : Hid ((∀ k, F k → k < w5.heap.size) ∧ w1.heap.size ≤ w5.heap.size) := ⟨HD5.out.is.lt, HD5.out.kept.size⟩
  have hmA : (mA : Int) ≤ 400 := by have := HMA.out; have := HDL.out; omega
  have hmI' : (mA : Int) ≤ I + 1 := by have := HMA.out; have := HDL.out; omega
  have HMG : Hid (m = (allL D la).length) := HI.out.1
  clear HO HK5 HA5 HD5 HDc HLc HAc HBX HBV HKV
  go_wp2_with fail
  refine (right_yes w6 oA mA cA vA rs oa m ca vs (allL D la) HMA.out HMG.out (by omega) (by omega) HS6.out.rsIn HA6.out.ks HRG.out).mono ?_
  rintro e w7 ⟨rfl, hk7⟩
  have HD7 : Hid (Dn w1 w7 p F s') := HD6.out.beside hk7
  have HL7 : Hid (IsL w7 q' p nlog (rowb rs).length ∧ ¬ F q' ∧ w1.heap.size ≤ q') := ⟨HL6.out.1.keeps hk7 (fun h => h), HL6.out.2.2, by have := HL6.out.2.1; have := HF5.out.2; omega⟩
  have HS7 : Hid (Scn w5 w7 oA cA vA rs) := HS6.out.keepsN hk7
  clear hk7 HD6 HL6 HS6 HA6 HK6
  go_wp2_with fail
  refine (dn_size nlog HD7.out (s' := s') (m := (readB nlog.data.toList s').length) (er := readE nlog.data.toList s') HI'.out.2.2 rfl rfl (by decide)).mono ?_
  rintro e w8 ⟨rfl, HD8, HK8⟩
  have HL8 : Hid (IsL w8 q' p nlog (rowb rs).length ∧ ¬ F q' ∧ w1.heap.size ≤ q') := ⟨HL7.out.1.keeps HK8.out HL7.out.2.1, HL7.out.2⟩
  have HS8 : Hid (Scn w5 w8 oA cA vA rs) := HS7.out.keepsF HK8.out HF5.out.1
  have HSZ : Hid ((readE nlog.data.toList s' = 0 ∧ (readB nlog.data.toList s').length = (rowb rs).length) ∨ (readE nlog.data.toList s' = 61 ∧ rs = [])) := by
    rcases HI'.out.1.size with h | h | h
    · unfold readE at h
      rw [HI'.out.2.1] at h
      simp only [Bool.false_eq_true, if_false] at h
      split at h <;> cases h
    · exact .inl h
    · exact .inr h
  generalize readE nlog.data.toList s' = GE at HSZ ⊢
  generalize (readB nlog.data.toList s').length = GN at HSZ ⊢
  clear HD7 HL7 HS7 HK8
  go_upto_block 4 with fail
  go_cut [23, 24, 25, 26] from 172 to 192 (fun z _ _ _ wy => ∃ S : Nat, z = .int .i64 (S : Nat) ∧ Hid (S = (rowb rs).length) ∧ Hid (Keeps no w8 wy))
  case first =>
    go_wp2_with fail
    go_loopw [23, 24] (fun z k wz => ∃ S K : Nat, z = .int .i64 (S : Nat) ∧ k = .int .i64 (K : Nat) ∧ (K : Int) ≤ mA ∧ (S : Int) ≤ (K : Int) * 1048584 ∧ Hid (S = (rowb (rs.take K)).length) ∧ Hid (Keeps no w8 wz)) (fun _ k _ => mA - (intOf k).toNat)
    case atStart => go_light; exact ⟨0, 0, rfl, rfl, by omega, by omega, rfl, Keeps.refl _ _⟩
    case round =>
      rename World => wz
      obtain ⟨S, K, rfl, rfl, hK, hS, HS, HKz⟩ := hrel
      by_cases hKm : (K : Int) < mA
      · obtain ⟨b, off, hab, d0, d1, d2, d3⟩ := (HS8.out.own.keepsN HKz.out).sl.atCE (j := K) (by have := HS8.out.len; have := HMA.out; omega)
        have HC : Hid (IsC wz (vA.getD K cv0) (rs.getD K c0)) := ((HS8.out.each K (by have := HMA.out; omega)).isC).keepsN HKz.out
        have HGK : Hid (Gd (rs.getD K c0)) := HI'.out.1.gd _ (Orl.getD_mem_lt c0 (by have := HMA.out; omega))
        have HTK : Hid (rowb (rs.take (K + 1)) = rowb (rs.take K) ++ enc (rs.getD K c0)) := rowb_take_succ rs K (by have := HMA.out; omega)
        generalize vA.getD K cv0 = v1 at d0 d1 d2 d3 HC
        generalize rs.getD K c0 = r1 at HC HGK HTK
        subst hab
        go_wp2_with fail
        refine (own_v wz v1 r1 HC.out).mono ?_
        rintro e w9 ⟨v9, rfl, HG9, HK9⟩
        go_wp2_with fail
        refine (build_v w9 v9 r1 HG9.out.isC (HT.out.keepsN ((HD8.out.kept.trans HKz.out).trans HK9.out))).mono ?_
        rintro e wA ⟨oB, nB, cB, rfl, HNB, -, -, HKA⟩
        rw [HGK.out.encE]
        rw [HGK.out.encB] at HNB
        have hnB : (nB : Int) ≤ 1048584 := by have := HNB.out; have := HGK.out.enc_len; omega
        clear d0 d1 d2 d3
        go_wp2_with fail
        go_roundw
        case rel => go_light; exact ⟨S + nB, K + 1, by go_num, by go_num, by omega, by omega, by show _ = _; rw [HTK.out, List.length_append, ← HS.out, ← HNB.out], (HKz.out.trans HK9.out).trans HKA.out⟩
        case measure => go_light; simp [intOf]; omega
      · have hKe : K = mA := by omega
        go_wp2_with fail
        go_meet
        go_light
        exact ⟨S, rfl, by have h := HS.out; rw [hKe, HMA.out, List.take_length] at h; exact h, HKz⟩
  case rest =>
    rename World => wy
    obtain ⟨S, rfl, HSS, HKy⟩ := hcut
    have HD9 : Hid (Dn w1 wy p F s') := HD8.out.beside HKy.out
    have HL9 : Hid (IsL wy q' p nlog S ∧ ¬ F q' ∧ w1.heap.size ≤ q') := ⟨by rw [HSS.out]; exact HL8.out.1.keeps HKy.out (fun h => h), HL8.out.2⟩
    have HS9 : Hid (Scn w5 wy oA cA vA rs) := HS8.out.keepsN HKy.out
    have hSb : (S : Int) ≤ 419433600 := by have := HSS.out; have := HDL.out; omega
    have HGS : Hid ((GE = 0 ∧ GN = S) ∨ (GE = 61 ∧ S = 0)) := by
      rcases HSZ.out with ⟨h1, h2⟩ | ⟨h1, h2⟩
      · exact .inl ⟨h1, by rw [h2, HSS.out]⟩
      · exact .inr ⟨h1, by rw [HSS.out, h2]; rfl⟩
    clear HSZ HD8 HL8 HS8 HKy
    go_upto_region 55 with fail
    go_cut [221] from 193 to 220 (fun z wy2 => z = .bool false ∧ wy2 = wy)
    case first =>
      rcases HGS.out with ⟨h1, h2⟩ | ⟨h1, h2⟩
      · subst h1 h2
        go_wp2_with fail
        refine (LogSize_any wy q' p nlog GN HL9.out.1).mono ?_
        rintro e w' ⟨rfl, hw⟩
        subst w'
        go_wp2_with fail
        go_meet
        go_light
        exact ⟨rfl, rfl⟩
      · subst h1 h2
        go_wp2_with fail
        refine (LogSize_any wy q' p nlog 0 HL9.out.1).mono ?_
        rintro e w' ⟨rfl, hw⟩
        subst w'
        go_wp2_with fail
        go_meet
        go_light
        exact ⟨rfl, rfl⟩
    case rest =>
      rename World => wy2
      obtain ⟨rfl, hwy⟩ := hcut
      subst wy2
      clear HGS
      go_upto_block 6 with fail
      go_cut [27, 28] from 222 to 236 (fun z _ wq => ∃ (on : Option Addr) (cn : Nat) (vn : List KV), z = .slice on mA cn ∧ Hid (Tld w1 wq F on cn vn (allL rs none)) ∧ Hid (Keeps no wy wq))
      case first =>
        go_wp2_with fail
        go_loopw [27, 28] (fun z k wz => ∃ (on : Option Addr) (K cn : Nat) (vn : List KV), z = .slice on K cn ∧ k = .int .i64 (K : Nat) ∧ (K : Int) ≤ mA ∧ Hid (Tld w1 wz F on cn vn (allL (rs.take K) none)) ∧ Hid (New wy on ∧ Keeps no wy wz)) (fun _ k _ => mA - (intOf k).toNat)
        case atStart => go_light; exact ⟨none, 0, 0, [], rfl, rfl, by omega, tld_nil .., ⟨new_none _, Keeps.refl _ _⟩⟩
        case round =>
          rename World => wz
          obtain ⟨on, K, cn, vn, rfl, rfl, hK, HTz, HNz⟩ := hrel
          by_cases hKm : (K : Int) < mA
          · obtain ⟨b, off, hab, d0, d1, d2, d3⟩ := (HS9.out.own.keepsN HNz.out.2).sl.atCE (j := K) (by have := HS9.out.len; have := HMA.out; omega)
            have HC : Hid (IsC wz (vA.getD K cv0) (rs.getD K c0)) := ((HS9.out.each K (by have := HMA.out; omega)).isC).keepsN HNz.out.2
            have HTK : Hid (allL (rs.take (K + 1)) none = allL (rs.take K) none ++ [(rs.getD K c0, true)]) := by show _ = _; rw [take_succ_getD rs K c0 (by have := HMA.out; omega), allL_done]
            have HVL : Hid (vn.length = K) := by have h := HTz.out.len; rw [allL_len] at h; simp only [laL, List.length_nil, Nat.add_zero, List.length_take] at h; have := HMA.out; exact (by omega : vn.length = K)
            generalize vA.getD K cv0 = v1 at d0 d1 d2 d3 HC
            generalize rs.getD K c0 = r1 at HC HTK
            subst hab
            go_wp2_with fail
            refine (own_v wz v1 r1 HC.out).mono ?_
            rintro e w9 ⟨v', rfl, HG9, HK9⟩
            clear d0 d1 d2 d3
            have HKg : Hid (Keeps no wz (w9.alloc (.cells #[.int .i64 v'.k, .int .u64 (v'.i : Nat), .slice v'.op v'.np v'.cp, .slice v'.ok v'.nk v'.ck, .bool true] 59))) := HK9.out.alloc _
            have HN1 : Hid (Sl KE (w9.alloc (.cells #[.int .i64 v'.k, .int .u64 (v'.i : Nat), .slice v'.op v'.np v'.cp, .slice v'.ok v'.nk v'.ck, .bool true] 59)) (some ⟨w9.heap.size, 0, none⟩) 1 [(v', true)]) := own_oneK w9 (v', true)
            have HAg : Hid (Tld w1 (w9.alloc (.cells #[.int .i64 v'.k, .int .u64 (v'.i : Nat), .slice v'.op v'.np v'.cp, .slice v'.ok v'.nk v'.ck, .bool true] 59)) F on cn vn (allL (rs.take K) none)) := HTz.out.keepsN HKg.out
            have HGg : Hid (Got w1 (w9.alloc (.cells #[.int .i64 v'.k, .int .u64 (v'.i : Nat), .slice v'.op v'.np v'.cp, .slice v'.ok v'.nk v'.ck, .bool true] 59)) v' r1 ∧ ∀ k, v'.blk k → ¬ F k) := ⟨(HG9.out.of_le (by have := HD9.out.kept.size; have := HNz.out.2.size; omega)).keepsN ((Keeps.refl _ _).alloc _), fun k h1 h2 => by have := HG9.out.ge k h1; have := HD9.out.is.lt k h2; have := HNz.out.2.size; omega⟩
            have HKy : Hid (Keeps no wy (w9.alloc (.cells #[.int .i64 v'.k, .int .u64 (v'.i : Nat), .slice v'.op v'.np v'.cp, .slice v'.ok v'.nk v'.ck, .bool true] 59))) := HNz.out.2.trans HKg.out
            go_wp2_with (at_builtin; go_must (refine wpList_app okK rfl _ _ rfl on K cn vn rfl HVL.out.symm HAg.out.own _ _ _ [(v', true)] rfl rfl (fun h => by cases h) HN1.out.row (by have := HVL.out; simp [KE]; omega) (by have := HVL.out; simp; omega) ?_); intro o' c' w7' ho' hap; have HO7 : Hid (Own KE w7' o' c' (vn ++ [(v', true)])) := ho'; have HAP : Hid (Ap (w9.alloc (.cells #[.int .i64 v'.k, .int .u64 (v'.i : Nat), .slice v'.op v'.np v'.cp, .slice v'.ok v'.nk v'.ck, .bool true] 59)) on o' w7') := hap; clear ho' hap)
            have HAh : Hid (Tld w1 w7' F o' c' (vn ++ [(v', true)]) (allL (rs.take (K + 1)) none)) := by rw [HTK.out]; exact HAg.out.push (HD9.out.kept.trans HKy.out) (fun k hk => by have := HD9.out.is.lt k hk; have := HKy.out.size; omega) HGg.out.1 HGg.out.2 rfl HO7.out HAP.out
            go_roundw
            case rel => go_light; exact ⟨o', K + 1, c', vn ++ [(v', true)], rfl, by go_num, by omega, HAh, HAP.out.new HNz.out.1 HKy.out⟩
            case measure => go_light; simp [intOf]; omega
          · have hKe : K = mA := by omega
            subst hKe
            go_wp2_with fail
            go_meet
            go_light
            exact ⟨on, cn, vn, rfl, by have h := HTz; rw [HMA.out, List.take_length] at h; exact h, HNz.out.2⟩
      case rest =>
        rename World => wq
        obtain ⟨on, cn, vn, rfl, HTq, HKq⟩ := hcut
        have HDq : Hid (Dn w1 wq p F s') := HD9.out.beside HKq.out
        have HLq : Hid (IsL wq q' p nlog S ∧ ¬ F q' ∧ w1.heap.size ≤ q' ∧ (s'.off = false → S = (rowb rs).length)) := ⟨HL9.out.1.keeps HKq.out (fun h => h), HL9.out.2.1, HL9.out.2.2, fun _ => HSS.out⟩
        have HMq : Hid (mA = (allL rs none).length ∧ KInv nlog.data.toList s' rs none []) := ⟨by rw [allL_len, HMA.out]; rfl, HI'.out.1⟩
        go_wp2_with fail
        go_roundw
        case rel => go_light; exact ⟨q', on, mA, cn, SQ, I + 1, F, s', rs, none, [], vn, S, rfl, rfl, rfl, by go_num, by omega, by omega, by omega, by omega, HMq, HDq, HLq, HTq⟩
        case measure => go_light; simp [intOf]; omega
end Go.Proofs.YtgamhblkgojapaaDoor
