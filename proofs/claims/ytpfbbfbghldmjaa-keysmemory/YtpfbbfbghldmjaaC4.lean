import Derived.Test.YtpfbbfbghldmjaaC3
namespace Go.Proofs.Ytpfbbfbghldmjaa
open Go.RowKit Go.Sort Orl
set_option linter.unusedVariables false
set_option linter.unusedSimpArgs false

/-- one of the three: the program's and the document's answer are one -/
theorem two_len {w : World} {sa sb l : List Tx} (hl : l.length ≤ sa.length + sb.length) : (if rising lts sa && rising lts sb then l else []).length ≤ sa.length + sb.length := by
  split
  · exact hl
  · simp
theorem rising_both {sa sb : List Tx} (l m : List Tx) (h : Inc lts sa → Inc lts sb → l = m) : (if rising lts sa && rising lts sb then l else []) = (if rising lts sa && rising lts sb then m else []) := by
  cases e1 : rising lts sa
  · rfl
  · cases e2 : rising lts sb
    · rfl
    · rw [h ((rising_iff swoT sa).1 e1) ((rising_iff swoT sb).1 e2)]

set_option maxHeartbeats 8000000 in
set_option maxRecDepth 10000 in
theorem keysAsks_any (w : World) (oa : Option Addr) (na ca : Nat) (ob : Option Addr) (nb cb : Nat) (sa sb : List Tx) (key : Tx) (hna : na = sa.length) (hnb : nb = sb.length) (hfa : ∀ x ∈ sa, x.size ≤ maxLen) (ha : Sl TE w oa ca sa) (hb : Sl TE w ob cb sb) :
    Calls Try.prog 7 #[.slice oa na ca, .slice ob nb cb, .string key] w fun e w' => e = .returned (.bool true) ∧ Keeps no w w' := by
  have HA : Hid (na = sa.length) := hna
  have HB : Hid (nb = sb.length) := hnb
  have HF : Hid (∀ x ∈ sa, x.size ≤ maxLen) := hfa
  clear hna hnb hfa
  by_cases hbig : (1200 : Int) < na
  · go_enter Try.func7, Try.ntmps7
    go_wp2_with fail
    refine (alive_any w).mono ?_
    rintro e w1 ⟨rfl, k1⟩
    go_wp2_with fail
    go_ret
    exact ⟨rfl, k1⟩
  by_cases hbig2 : (1200 : Int) < nb
  · go_enter Try.func7, Try.ntmps7
    go_wp2_with fail
    refine (alive_any w).mono ?_
    rintro e w1 ⟨rfl, k1⟩
    go_wp2_with fail
    go_ret
    exact ⟨rfl, k1⟩
  have HL : Hid (sa.length ≤ 1200 ∧ sb.length ≤ 1200) := ⟨by have := HA.out; omega, by have := HB.out; omega⟩
  have HSA : Hid (Small sa) := by have := HL.out.1; show _ ≤ _; omega
  have HSB : Hid (Small sb) := by have := HL.out.2; show _ ≤ _; omega
  obtain ⟨E, hE⟩ : ∃ E : Int, (if valK sa then (0 : Int) else 40) = E := ⟨_, rfl⟩
  obtain ⟨L, hL⟩ : ∃ L : List Tx, (if valK sa then isT sa else []) = L := ⟨_, rfl⟩
  obtain ⟨V, hV⟩ : ∃ V, valK sa = V := ⟨_, rfl⟩
  obtain ⟨R, hR⟩ : ∃ R, rising lts sa = R := ⟨_, rfl⟩
  obtain ⟨B, hB⟩ : ∃ B, (rising lts sa && inn sa key) = B := ⟨_, rfl⟩
  obtain ⟨E2, hE2⟩ : ∃ E : Int, (if rising lts sa && rising lts sb then (0 : Int) else 40) = E := ⟨_, rfl⟩
  obtain ⟨L1, hL1⟩ : ∃ L : List Tx, (if rising lts sa && rising lts sb then mg lts true true true sa sb else []) = L := ⟨_, rfl⟩
  obtain ⟨L2, hL2⟩ : ∃ L : List Tx, (if rising lts sa && rising lts sb then mg lts false true false sa sb else []) = L := ⟨_, rfl⟩
  obtain ⟨L3, hL3⟩ : ∃ L : List Tx, (if rising lts sa && rising lts sb then mg lts true false false sa sb else []) = L := ⟨_, rfl⟩
  have M1 := (rising_both _ _ (fun h1 h2 => union_eq h1 h2)).symm.trans hL1
  have M2 := (rising_both _ _ (fun h1 h2 => common_eq h1 h2)).symm.trans hL2
  have M3 := (rising_both _ _ (fun h1 h2 => minus_eq h1 h2)).symm.trans hL3
  have HLS : Hid (Small L ∧ Small L1 ∧ Small L2 ∧ Small L3) := by
    have q0 := HL.out
    refine ⟨?_, ?_, ?_, ?_⟩
    · rw [← hL]; show _ ≤ _; split
      · rw [isT_length]; omega
      · simp
    · rw [← hL1]; have := two_len (w := w) (mg_length_le (lt := lts) true true true sa sb); show _ ≤ _; omega
    · rw [← hL2]; have := two_len (w := w) (mg_length_le (lt := lts) false true false sa sb); show _ ≤ _; omega
    · rw [← hL3]; have := two_len (w := w) (mg_length_le (lt := lts) true false false sa sb); show _ ≤ _; omega
  have HE : Hid ((if valK sa then (0 : Int) else 40) = E) := hE
  have HLL : Hid ((if valK sa then isT sa else []) = L) := hL
  have HV : Hid (valK sa = V) := hV
  have HR : Hid (rising lts sa = R) := hR
  have HBB : Hid ((rising lts sa && inn sa key) = B) := hB
  have HE2 : Hid ((if rising lts sa && rising lts sb then (0 : Int) else 40) = E2) := hE2
  have HL1 : Hid ((if rising lts sa && rising lts sb then mg lts true true true sa sb else []) = L1) := hL1
  have HL2 : Hid ((if rising lts sa && rising lts sb then mg lts false true false sa sb else []) = L2) := hL2
  have HL3 : Hid ((if rising lts sa && rising lts sb then mg lts true false false sa sb else []) = L3) := hL3
  have HM1 : Hid ((if rising lts sa && rising lts sb then refU sa sb else []) = L1) := M1
  have HM2 : Hid ((if rising lts sa && rising lts sb then someL sa sb true else []) = L2) := M2
  have HM3 : Hid ((if rising lts sa && rising lts sb then someL sa sb false else []) = L3) := M3
  clear hE hL hV hR hB hE2 hL1 hL2 hL3 M1 M2 M3
  go_enter Try.func7, Try.ntmps7
  go_wp2_with fail
  refine (alive_any w).mono ?_
  rintro e w1 ⟨rfl, k1⟩
  have K1 : Hid (Keeps no w w1) := k1
  clear k1
  go_wp2_with fail
  refine (own_any w1 oa na ca sa HA.out (ha.keepsN K1.out) HSA.out).mono ?_
  rintro e w2 ⟨v, rfl, o2, n2, c2, rfl, hn2, ho2, hw2, k2⟩
  have K2 : Hid (Keeps no w w2) := K1.out.trans k2
  clear k2
  have h3 := sorted_any w2 o2 n2 c2 sa hn2.out HSA.out HF.out ho2.sl
  rw [HE.out, HLL.out] at h3
  go_wp2_with fail
  refine h3.mono ?_
  rintro e w3 ⟨v, rfl, o3, n3, c3, rfl, hn3, ho3, hw3, k3⟩
  have K3 : Hid (Keeps no w w3) := K2.out.trans k3
  clear h3
  have h4 := refSorted_any w3 oa na ca sa HA.out (by have := HL.out; omega) HF.out (ha.keepsN K3.out)
  rw [HE.out, HLL.out] at h4
  go_wp2_with fail
  refine h4.mono ?_
  rintro e w4 ⟨v, rfl, o4, n4, c4, rfl, hn4, ho4, hw4, k4⟩
  have K4 : Hid (Keeps no w w4) := K3.out.trans k4
  clear h4
  have O3 : Hid (Own TE w4 o3 c3 L) := ho3.keepsN k4
  go_wp2_with fail
  refine (same_yes w4 o3 n3 c3 o4 n4 c4 L hn3.out hn4.out HLS.out.1 O3.out.sl ho4.sl).mono ?_
  rintro e w5 ⟨rfl, k5⟩
  have K5 : Hid (Keeps no w w5) := K4.out.trans k5
  clear k5
  go_wp2_with fail
  refine (own_any w5 oa na ca sa HA.out (ha.keepsN K5.out) HSA.out).mono ?_
  rintro e w6 ⟨v, rfl, o6, n6, c6, rfl, hn6, ho6, hw6, k6⟩
  have K6 : Hid (Keeps no w w6) := K5.out.trans k6
  clear k6
  have h7 := valid_any w6 o6 n6 c6 sa hn6.out HSA.out HF.out ho6.sl
  rw [HV.out] at h7
  go_wp2_with fail
  refine h7.mono ?_
  rintro e w7 ⟨rfl, k7⟩
  have K7 : Hid (Keeps no w w7) := K6.out.trans k7
  clear k7 h7
  have h8 := refValid_any w7 oa na ca sa HA.out (by have := HL.out; omega) HF.out (ha.keepsN K7.out)
  rw [HV.out] at h8
  go_wp2_with fail
  refine h8.mono ?_
  rintro e w8 ⟨rfl, k8⟩
  have K8 : Hid (Keeps no w w8) := K7.out.trans k8
  clear k8 h8
  go_wp2_with fail
  refine (own_any w8 oa na ca sa HA.out (ha.keepsN K8.out) HSA.out).mono ?_
  rintro e w9 ⟨v, rfl, o9, n9, c9, rfl, hn9, ho9, hw9, k9⟩
  have K9 : Hid (Keeps no w w9) := K8.out.trans k9
  clear k9
  have h10 := rising_any w9 o9 n9 c9 sa hn9.out HSA.out ho9.sl
  rw [HR.out] at h10
  go_wp2_with fail
  refine h10.mono ?_
  rintro e w10 ⟨rfl, k10⟩
  have K10 : Hid (Keeps no w w10) := K9.out.trans k10
  clear k10 h10
  have h11 := refRising_any w10 oa na ca sa HA.out HSA.out (ha.keepsN K10.out)
  rw [HR.out] at h11
  go_wp2_with fail
  refine h11.mono ?_
  rintro e w11 ⟨rfl, k11⟩
  have K11 : Hid (Keeps no w w11) := K10.out.trans k11
  clear k11 h11
  go_wp2_with fail
  refine (own_any w11 oa na ca sa HA.out (ha.keepsN K11.out) HSA.out).mono ?_
  rintro e w12 ⟨v, rfl, o12, n12, c12, rfl, hn12, ho12, hw12, k12⟩
  have K12 : Hid (Keeps no w w12) := K11.out.trans k12
  clear k12
  have h13 := has_any w12 o12 n12 c12 sa key hn12.out HSA.out ho12.sl
  rw [HBB.out] at h13
  go_wp2_with fail
  refine h13.mono ?_
  rintro e w13 ⟨rfl, k13⟩
  have K13 : Hid (Keeps no w w13) := K12.out.trans k13
  clear k13 h13
  have h14 := refHas_any w13 oa na ca sa key HA.out HSA.out (ha.keepsN K13.out)
  rw [HBB.out] at h14
  go_wp2_with fail
  refine h14.mono ?_
  rintro e w14 ⟨rfl, k14⟩
  have K14 : Hid (Keeps no w w14) := K13.out.trans k14
  clear k14 h14
  go_wp2_with fail
  refine (own_any w14 oa na ca sa HA.out (ha.keepsN K14.out) HSA.out).mono ?_
  rintro e w15 ⟨v, rfl, o15, n15, c15, rfl, hn15, ho15, hw15, k15⟩
  have K15 : Hid (Keeps no w w15) := K14.out.trans k15
  clear k15
  go_wp2_with fail
  refine (own_any w15 ob nb cb sb HB.out (hb.keepsN K15.out) HSB.out).mono ?_
  rintro e w16 ⟨v, rfl, o16, n16, c16, rfl, hn16, ho16, hw16, k16⟩
  have K16 : Hid (Keeps no w w16) := K15.out.trans k16
  have P15 : Hid (Own TE w16 o15 c15 sa) := ho15.keepsN k16
  clear k16
  have h17 := union_any w16 o15 n15 c15 o16 n16 c16 sa sb hn15.out hn16.out (by have := HL.out; omega) (by have := HL.out; omega) P15.out.sl ho16.sl
  unfold Two at h17
  rw [HE2.out, HL1.out] at h17
  go_wp2_with fail
  refine h17.mono ?_
  rintro e w17 ⟨v, rfl, o17, n17, c17, rfl, hn17, ho17, hw17, k17⟩
  have K17 : Hid (Keeps no w w17) := K16.out.trans k17
  clear h17
  have h18 := refUnion_any w17 oa na ca ob nb cb sa sb HA.out HB.out (by have := HL.out; omega) (by have := HL.out; omega) (ha.keepsN K17.out) (hb.keepsN K17.out)
  rw [HE2.out, HM1.out] at h18
  go_wp2_with fail
  refine h18.mono ?_
  rintro e w18 ⟨v, rfl, o18, n18, c18, rfl, hn18, ho18, hw18, k18⟩
  have K18 : Hid (Keeps no w w18) := K17.out.trans k18
  clear h18
  have O17 : Hid (Own TE w18 o17 c17 L1) := ho17.keepsN k18
  go_wp2_with fail
  refine (same_yes w18 o17 n17 c17 o18 n18 c18 L1 hn17.out hn18.out HLS.out.2.1 O17.out.sl ho18.sl).mono ?_
  rintro e w19 ⟨rfl, k19⟩
  have K19 : Hid (Keeps no w w19) := K18.out.trans k19
  clear k19
  go_wp2_with fail
  refine (own_any w19 oa na ca sa HA.out (ha.keepsN K19.out) HSA.out).mono ?_
  rintro e w20 ⟨v, rfl, o20, n20, c20, rfl, hn20, ho20, hw20, k20⟩
  have K20 : Hid (Keeps no w w20) := K19.out.trans k20
  clear k20
  go_wp2_with fail
  refine (own_any w20 ob nb cb sb HB.out (hb.keepsN K20.out) HSB.out).mono ?_
  rintro e w21 ⟨v, rfl, o21, n21, c21, rfl, hn21, ho21, hw21, k21⟩
  have K21 : Hid (Keeps no w w21) := K20.out.trans k21
  have P20 : Hid (Own TE w21 o20 c20 sa) := ho20.keepsN k21
  clear k21
  have h22 := common_any w21 o20 n20 c20 o21 n21 c21 sa sb hn20.out hn21.out (by have := HL.out; omega) (by have := HL.out; omega) P20.out.sl ho21.sl
  unfold Two at h22
  rw [HE2.out, HL2.out] at h22
  go_wp2_with fail
  refine h22.mono ?_
  rintro e w22 ⟨v, rfl, o22, n22, c22, rfl, hn22, ho22, hw22, k22⟩
  have K22 : Hid (Keeps no w w22) := K21.out.trans k22
  clear h22
  have h23 := refCommon_any w22 oa na ca ob nb cb sa sb HA.out HB.out (by have := HL.out; omega) (by have := HL.out; omega) (ha.keepsN K22.out) (hb.keepsN K22.out)
  unfold Two at h23
  rw [HE2.out, HM2.out] at h23
  go_wp2_with fail
  refine h23.mono ?_
  rintro e w23 ⟨v, rfl, o23, n23, c23, rfl, hn23, ho23, hw23, k23⟩
  have K23 : Hid (Keeps no w w23) := K22.out.trans k23
  clear h23
  have O22 : Hid (Own TE w23 o22 c22 L2) := ho22.keepsN k23
  go_wp2_with fail
  refine (same_yes w23 o22 n22 c22 o23 n23 c23 L2 hn22.out hn23.out HLS.out.2.2.1 O22.out.sl ho23.sl).mono ?_
  rintro e w24 ⟨rfl, k24⟩
  have K24 : Hid (Keeps no w w24) := K23.out.trans k24
  clear k24
  go_wp2_with fail
  refine (own_any w24 oa na ca sa HA.out (ha.keepsN K24.out) HSA.out).mono ?_
  rintro e w25 ⟨v, rfl, o25, n25, c25, rfl, hn25, ho25, hw25, k25⟩
  have K25 : Hid (Keeps no w w25) := K24.out.trans k25
  clear k25
  go_wp2_with fail
  refine (own_any w25 ob nb cb sb HB.out (hb.keepsN K25.out) HSB.out).mono ?_
  rintro e w26 ⟨v, rfl, o26, n26, c26, rfl, hn26, ho26, hw26, k26⟩
  have K26 : Hid (Keeps no w w26) := K25.out.trans k26
  have P25 : Hid (Own TE w26 o25 c25 sa) := ho25.keepsN k26
  clear k26
  have h27 := minus_any w26 o25 n25 c25 o26 n26 c26 sa sb hn25.out hn26.out (by have := HL.out; omega) (by have := HL.out; omega) P25.out.sl ho26.sl
  unfold Two at h27
  rw [HE2.out, HL3.out] at h27
  go_wp2_with fail
  refine h27.mono ?_
  rintro e w27 ⟨v, rfl, o27, n27, c27, rfl, hn27, ho27, hw27, k27⟩
  have K27 : Hid (Keeps no w w27) := K26.out.trans k27
  clear h27
  have h28 := refMinus_any w27 oa na ca ob nb cb sa sb HA.out HB.out (by have := HL.out; omega) (by have := HL.out; omega) (ha.keepsN K27.out) (hb.keepsN K27.out)
  unfold Two at h28
  rw [HE2.out, HM3.out] at h28
  go_wp2_with fail
  refine h28.mono ?_
  rintro e w28 ⟨v, rfl, o28, n28, c28, rfl, hn28, ho28, hw28, k28⟩
  have K28 : Hid (Keeps no w w28) := K27.out.trans k28
  clear h28
  have O27 : Hid (Own TE w28 o27 c27 L3) := ho27.keepsN k28
  go_wp2_with fail
  refine (same_yes w28 o27 n27 c27 o28 n28 c28 L3 hn27.out hn28.out HLS.out.2.2.2 O27.out.sl ho28.sl).mono ?_
  rintro e w29 ⟨rfl, k29⟩
  have K29 : Hid (Keeps no w w29) := K28.out.trans k29
  clear k29
  go_wp2_with fail
  go_ret
  exact ⟨rfl, K29.out⟩
end Go.Proofs.Ytpfbbfbghldmjaa
