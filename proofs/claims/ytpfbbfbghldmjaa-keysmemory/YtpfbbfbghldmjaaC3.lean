import Derived.Test.YtpfbbfbghldmjaaC2
namespace Go.Proofs.Ytpfbbfbghldmjaa
open Go.RowKit Go.Sort Orl
set_option linter.unusedVariables false
set_option linter.unusedSimpArgs false

theorem sameP_yes (w : World) (oa : Option Addr) (na ca : Nat) (ob : Option Addr) (nb cb : Nat) (l : List Pr) (hna : na = l.length) (hnb : nb = l.length) (hl : Small l) (ha : Sl PE w oa ca l) (hb : Sl PE w ob cb l) :
    Calls Try.prog 21 #[.slice oa na ca, .slice ob nb cb] w fun e w' => e = .returned (.bool true) ∧ Keeps no w w' := by
  refine (samePairs_any w oa na ca ob nb cb l l hna hnb hl hl ha hb).mono ?_
  rintro e w' ⟨⟨B, rfl, hB⟩, hk⟩
  rw [hB.out.2 rfl]
  exact ⟨rfl, hk⟩
theorem same_yes (w : World) (oa : Option Addr) (na ca : Nat) (ob : Option Addr) (nb cb : Nat) (l : List Tx) (hna : na = l.length) (hnb : nb = l.length) (hl : Small l) (ha : Sl TE w oa ca l) (hb : Sl TE w ob cb l) :
    Calls Try.prog 14 #[.slice oa na ca, .slice ob nb cb] w fun e w' => e = .returned (.bool true) ∧ Keeps no w w' := by
  refine (same_any w oa na ca ob nb cb l l hna hnb hl hl ha hb).mono ?_
  rintro e w' ⟨⟨B, rfl, hB⟩, hk⟩
  rw [hB.out.2 rfl]
  exact ⟨rfl, hk⟩

set_option maxHeartbeats 4000000 in
set_option maxRecDepth 10000 in
theorem keysPairs_any (w : World) (a : Option Addr) (n c : Nat) (xs : List Pr) (hn : n = xs.length) (hf : FitsP xs) (hs : Sl PE w a c xs) :
    Calls Try.prog 6 #[.slice a n c] w fun e w' => e = .returned (.bool true) ∧ Keeps no w w' := by
  have HA : Hid (n = xs.length) := hn
  have HF : Hid (FitsP xs) := hf
  clear hn hf
  by_cases hbig : (1200 : Int) < n
  · go_enter Try.func6, Try.ntmps6
    go_wp2_with fail
    refine (alive_any w).mono ?_
    rintro e w1 ⟨rfl, k1⟩
    go_wp2_with fail
    go_ret
    exact ⟨rfl, k1⟩
  have HL : Hid (xs.length ≤ 1200) := by have := HA.out; show _ ≤ _; omega
  have HS : Hid (Small xs) := by have := HL.out; show _ ≤ _; omega
  obtain ⟨E, hE⟩ : ∃ E : Int, (if valP xs then (0 : Int) else 40) = E := ⟨_, rfl⟩
  obtain ⟨L, hL⟩ : ∃ L : List Pr, (if valP xs then nrm xs else []) = L := ⟨_, rfl⟩
  obtain ⟨R, hR⟩ : ∃ R, valP xs = R := ⟨_, rfl⟩
  have HE : Hid ((if valP xs then (0 : Int) else 40) = E) := hE
  have HLL : Hid ((if valP xs then nrm xs else []) = L) := hL
  have HR : Hid (valP xs = R) := hR
  have HLS : Hid (Small L) := by
    rw [← hL]
    have := HL.out
    show _ ≤ _
    split
    · rw [nrm_length]; omega
    · simp
  clear hE hL hR
  go_enter Try.func6, Try.ntmps6
  go_wp2_with fail
  refine (alive_any w).mono ?_
  rintro e w1 ⟨rfl, k1⟩
  have K1 : Hid (Keeps no w w1) := k1
  clear k1
  go_wp2_with fail
  refine (ownPairs_any w1 a n c xs HA.out (hs.keepsN K1.out) HS.out).mono ?_
  rintro e w2 ⟨v, rfl, o2, n2, c2, rfl, hn2, ho2, hw2, k2⟩
  have K2 : Hid (Keeps no w w2) := K1.out.trans k2
  have h3 := norm_any w2 o2 n2 c2 xs hn2.out (by have := HL.out; omega) HF.out ho2.sl
  rw [HE.out, HLL.out] at h3
  clear k2
  go_wp2_with fail
  refine h3.mono ?_
  rintro e w3 ⟨v, rfl, o3, n3, c3, rfl, hn3, ho3, hw3, k3⟩
  have K3 : Hid (Keeps no w w3) := K2.out.trans k3
  have h4 := refNorm_any w3 a n c xs HA.out (by have := HL.out; omega) HF.out (hs.keepsN K3.out)
  rw [HE.out, HLL.out] at h4
  clear k3
  go_wp2_with fail
  refine h4.mono ?_
  rintro e w4 ⟨v, rfl, o4, n4, c4, rfl, hn4, ho4, hw4, k4⟩
  have K4 : Hid (Keeps no w w4) := K3.out.trans k4
  have O3 : Hid (Own PE w4 o3 c3 L) := ho3.keepsN k4
  clear k4 h3 h4
  go_wp2_with fail
  refine (sameP_yes w4 o3 n3 c3 o4 n4 c4 L hn3.out hn4.out HLS.out O3.out.sl ho4.sl).mono ?_
  rintro e w5 ⟨rfl, k5⟩
  have K5 : Hid (Keeps no w w5) := K4.out.trans k5
  clear k5
  go_wp2_with fail
  refine (ownPairs_any w5 a n c xs HA.out (hs.keepsN K5.out) HS.out).mono ?_
  rintro e w6 ⟨v, rfl, o6, n6, c6, rfl, hn6, ho6, hw6, k6⟩
  have K6 : Hid (Keeps no w w6) := K5.out.trans k6
  have h7 := validPairs_any w6 o6 n6 c6 xs hn6.out (by have := HL.out; omega) HF.out ho6.sl
  rw [HR.out] at h7
  clear k6
  go_wp2_with fail
  refine h7.mono ?_
  rintro e w7 ⟨rfl, k7⟩
  have K7 : Hid (Keeps no w w7) := K6.out.trans k7
  have h8 := refValidPairs_any w7 a n c xs HA.out (by have := HL.out; omega) HF.out (hs.keepsN K7.out)
  rw [HR.out] at h8
  clear k7
  go_wp2_with fail
  refine h8.mono ?_
  rintro e w8 ⟨rfl, k8⟩
  have K8 : Hid (Keeps no w w8) := K7.out.trans k8
  clear k8 h7 h8
  go_wp2_with fail
  refine (ownPairs_any w8 a n c xs HA.out (hs.keepsN K8.out) HS.out).mono ?_
  rintro e w9 ⟨v, rfl, o9, n9, c9, rfl, hn9, ho9, hw9, k9⟩
  have K9 : Hid (Keeps no w w9) := K8.out.trans k9
  clear k9
  go_wp2_with fail
  refine (names_any w9 o9 n9 c9 xs hn9.out HS.out ho9.sl).mono ?_
  rintro e w10 ⟨v, rfl, o10, n10, c10, rfl, hn10, ho10, hw10, k10⟩
  have K10 : Hid (Keeps no w w10) := K9.out.trans k10
  clear k10
  go_wp2_with fail
  refine (refNames_any w10 a n c xs HA.out HS.out (hs.keepsN K10.out)).mono ?_
  rintro e w11 ⟨v, rfl, o11, n11, c11, rfl, hn11, ho11, hw11, k11⟩
  have K11 : Hid (Keeps no w w11) := K10.out.trans k11
  have O10 : Hid (Own TE w11 o10 c10 (kys xs)) := ho10.keepsN k11
  clear k11
  go_wp2_with fail
  refine (same_yes w11 o10 n10 c10 o11 n11 c11 (kys xs) hn10.out hn11.out (by unfold Small; rw [kys_length]; exact HS.out) O10.out.sl ho11.sl).mono ?_
  rintro e w12 ⟨rfl, k12⟩
  go_wp2_with fail
  go_ret
  exact ⟨rfl, K11.out.trans k12⟩
end Go.Proofs.Ytpfbbfbghldmjaa
