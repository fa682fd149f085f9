import Derived.Test.YtpfbbfbghldmjaaE1
namespace Go.Proofs.Ytpfbbfbghldmjaa
open Go.RowKit Go.Sort Orl
set_option linter.unusedVariables false
set_option linter.unusedSimpArgs false

theorem wrap_u64 (n : Nat) (h : (n : Int) ≤ 1200) : IntKind.u64.wrap (n : Int) = (n : Int) := by
  have : IntKind.u64.wrap (n : Int) = (n : Int) % 18446744073709551616 := by simp [IntKind.wrap, IntKind.bits, IntKind.signed]
  rw [this]
  omega

theorem wrap_i64 (n : Nat) (h : (n : Int) ≤ 1200) : IntKind.i64.wrap (n : Int) = (n : Int) := by
  have : IntKind.i64.wrap (n : Int) = if (n : Int) % 18446744073709551616 ≥ 9223372036854775808 then (n : Int) % 18446744073709551616 - 18446744073709551616 else (n : Int) % 18446744073709551616 := by simp [IntKind.wrap, IntKind.bits, IntKind.signed]
  rw [this]
  split <;> omega

set_option maxHeartbeats 8000000 in
set_option maxRecDepth 10000 in
theorem keysOrder_any (w : World) (a : Option Addr) (n c : Nat) (xs : List Pr) (turn : Int) (h1 : -9223372036854775808 ≤ turn) (h2 : turn ≤ 9223372036854775807) (hn : n = xs.length) (hf : FitsP xs) (hs : Sl PE w a c xs) :
    Calls Try.prog 4 #[.slice a n c, .int .i64 turn] w fun e w' => e = .returned (.bool true) ∧ Keeps no w w' := by
  have HA : Hid (n = xs.length) := hn
  have HF : Hid (FitsP xs) := hf
  clear hn hf
  by_cases hbig : (1200 : Int) < n
  · go_enter Try.func4, Try.ntmps4
    go_wp2_with fail
    refine (alive_any w).mono ?_
    rintro e w1 ⟨rfl, k1⟩
    go_wp2_with fail
    go_ret
    exact ⟨rfl, k1⟩
  have hN : (n : Int) ≤ 1200 := by omega
  have HL : Hid (xs.length ≤ 1200) := by have := HA.out; show _ ≤ _; omega
  have HS : Hid (Small xs) := by have := HL.out; show _ ≤ _; omega
  obtain ⟨TU, t, hTU⟩ : ∃ TU t : Nat, 0 < n → IntKind.u64.wrap turn = (TU : Int) ∧ ((TU : Int)).tmod (n : Int) = (t : Int) ∧ t < n := by
    by_cases h0 : 0 < n
    · obtain ⟨TU, t, q⟩ := turn_mod turn n h0
      exact ⟨TU, t, fun _ => q⟩
    · exact ⟨0, 0, fun h => absurd h h0⟩
  have HT : Hid (0 < n → IntKind.u64.wrap turn = (TU : Int) ∧ ((TU : Int)).tmod (n : Int) = (t : Int) ∧ t < n) := hTU
  obtain ⟨B, hB⟩ : ∃ B, backL xs t = B := ⟨_, rfl⟩
  have HB : Hid (backL xs t = B) := hB
  have BP : Hid (B.Perm xs) := by rw [← hB]; exact backL_perm xs t
  clear hTU hB
  obtain ⟨E, hE⟩ : ∃ E : Int, (if valP xs then (0 : Int) else 40) = E := ⟨_, rfl⟩
  obtain ⟨L, hL⟩ : ∃ L : List Pr, (if valP xs then nrm xs else []) = L := ⟨_, rfl⟩
  have HE : Hid ((if valP xs then (0 : Int) else 40) = E) := hE
  have HLL : Hid ((if valP xs then nrm xs else []) = L) := hL
  have HE2 : Hid ((if valP B then (0 : Int) else 40) = E) := by rw [valP_perm BP.out]; exact hE
  have HLL2 : Hid ((if valP B then nrm B else []) = L) := by
    rw [valP_perm BP.out, ← hL]
    cases e : valP xs
    · rfl
    · show nrm B = nrm xs
      exact nrm_perm_eq BP.out e
  obtain ⟨E3, hE3⟩ : ∃ E : Int, (if valK (kys xs) then (0 : Int) else 40) = E := ⟨_, rfl⟩
  obtain ⟨L3, hL3⟩ : ∃ L : List Tx, (if valK (kys xs) then isT (kys xs) else []) = L := ⟨_, rfl⟩
  have HE3 : Hid ((if valK (kys xs) then (0 : Int) else 40) = E3) := hE3
  have HLL3 : Hid ((if valK (kys xs) then isT (kys xs) else []) = L3) := hL3
  have HLS : Hid (Small L) := by
    rw [← hL]
    have := HL.out
    show _ ≤ _
    split
    · rw [nrm_length]; omega
    · simp
  have HLE : Hid (B.length = xs.length ∧ B.length ≤ 40000 ∧ Small B ∧ FitsP B) := ⟨BP.out.length_eq, by rw [BP.out.length_eq]; have := HL.out; omega, by show _ ≤ _; rw [BP.out.length_eq]; exact HS.out, HF.out.sub (fun p hp => BP.out.mem_iff.1 hp)⟩
  clear hE hL hE3 hL3
  go_enter Try.func4, Try.ntmps4
  go_wp2_with fail
  refine (alive_any w).mono ?_
  rintro e w1 ⟨rfl, k1⟩
  have K1 : Hid (Keeps no w w1) := k1
  clear k1
  go_wp2_with fail
  go_loopw [6, 8] (fun s6 i wr => ∃ (k : Nat) (v : Value), k ≤ n ∧ i = .int .i64 k ∧ s6 = v ∧ Hid (Gives PE w (B.take k) v wr)) (fun _ i _ => n - (intOf i).toNat)
  case atStart => exact ⟨0, _, by omega, rfl, rfl, ⟨none, 0, 0, rfl, (show 0 = _ by simp), own_nil _, new_none _, K1.out⟩⟩
  case round =>
    obtain ⟨k, v, hk, rfl, rfl, HG⟩ := hrel
    obtain ⟨o, m, d, rfl, hm, ho, hnw, hkp⟩ := HG.out
    by_cases hlt : k < n
    · obtain ⟨hW, hM, ht⟩ := HT.out (by omega)
      obtain ⟨I, hI⟩ : ∃ I, (n - 1 - k + t) % n = I := ⟨_, rfl⟩
      have hIn : I < n := by rw [← hI]; exact Nat.mod_lt _ (by omega)
      have hIx := idx_mod n k t hlt ht
      rw [hI] at hIx
      have hpk : B.take (k + 1) = B.take k ++ [xs.getD I p0] := by
        rw [take_succ_getD B k p0 (by have := HLE.out.1; have := HA.out; omega), ← HB.out, backL_at xs t k (by have := HA.out; omega) (by have := HA.out; omega), ← HA.out, hI]
      obtain ⟨b1, off1, rfl, d1, d2⟩ := (hs.keepsN hkp).atP (j := I) (by have := HA.out; omega)
      rcases hp : xs.getD I p0 with ⟨x1, x2⟩
      rw [hp] at d1 d2 hpk
      simp only at d1 d2
      have HPK : Hid (B.take (k + 1) = B.take k ++ [(x1, x2)]) := hpk
      have hn0 : ¬ (n : Int) = 0 := by omega
      have hn0' : (0 : Int) < n := by omega
      have htI : (t : Int) < n := by omega
      have hII : (I : Int) < n := by omega
      have hkI : (k : Int) < n := by omega
      have HLen : Hid ((B.take k).length ≤ 1200) := by rw [List.length_take]; have := HLE.out.1; have := HL.out; show _ ≤ _; omega
      clear hp hpk hI ht
      go_wp2_with (at_builtin; refine wpList_app okP rfl _ _ rfl _ _ _ (B.take k) rfl hm.out (ho.keepsN ((Keeps.refl _ _).alloc _)) _ _ _ [(x1, x2)] rfl rfl (own_oneP _ x1 x2).nil (own_oneP _ x1 x2).row (by have := HLen.out; simp [PE]; omega) (by have := HLen.out; simp; omega) ?_; intro o1 c1 w3 ho3 hap3)
      go_roundw
      case rel =>
        have k4 := hap3.new (w0 := w) hnw (hkp.alloc _)
        refine ⟨k + 1, _, by omega, by go_num, rfl, ?_⟩
        show Gives PE w (B.take (k + 1)) _ _
        rw [HPK.out]
        exact ⟨o1, _, c1, rfl, (show m + 1 = _ by rw [List.length_append, ← hm.out]; rfl), ho3, k4.1, k4.2⟩
      case measure => simp [intOf] <;> omega
    · have he : B.take k = B := List.take_of_length_le (by have := HLE.out.1; have := HA.out; omega)
      rw [he] at hm ho
      have OB : Hid (Own PE wr o d B) := ho
      have KR : Hid (Keeps no w wr) := hkp
      have HMB : Hid (m = B.length) := hm
      clear ho hkp hnw he HG
      go_wp2_with fail
      refine (ownPairs_any wr a n c xs HA.out (hs.keepsN KR.out) HS.out).mono ?_
      rintro e w2 ⟨v, rfl, o2, n2, c2, rfl, hn2, ho2, _, k2⟩
      have K2 : Hid (Keeps no wr w2) := k2
      have h3 := norm_any w2 o2 n2 c2 xs hn2.out (by have := HL.out; omega) HF.out ho2.sl
      rw [HE.out, HLL.out] at h3
      clear k2
      go_wp2_with fail
      refine h3.mono ?_
      rintro e w3 ⟨v, rfl, o3, n3, c3, rfl, hn3, ho3, _, k3⟩
      have K3 : Hid (Keeps no wr w3) := K2.out.trans k3
      clear k3 h3 ho2
      go_wp2_with fail
      refine (ownPairs_any w3 o m d B HMB.out (OB.out.sl.keepsN K3.out) HLE.out.2.2.1).mono ?_
      rintro e w4 ⟨v, rfl, o4, n4, c4, rfl, hn4, ho4, _, k4⟩
      have K4 : Hid (Keeps no wr w4) := K3.out.trans k4
      have O3 : Hid (Own PE w4 o3 c3 L) := ho3.keepsN k4
      have h5 := norm_any w4 o4 n4 c4 B hn4.out HLE.out.2.1 HLE.out.2.2.2 ho4.sl
      rw [HE2.out, HLL2.out] at h5
      clear k4 ho3
      go_wp2_with fail
      refine h5.mono ?_
      rintro e w5 ⟨v, rfl, o5, n5, c5, rfl, hn5, ho5, _, k5⟩
      have K5 : Hid (Keeps no wr w5) := K4.out.trans k5
      have O35 : Hid (Own PE w5 o3 c3 L) := O3.out.keepsN k5
      clear k5 h5 ho4 O3
      go_wp2_with fail
      refine (ownPairs_any w5 a n c xs HA.out (hs.keepsN (KR.out.trans K5.out)) HS.out).mono ?_
      rintro e w6 ⟨v, rfl, o6, n6, c6, rfl, hn6, ho6, _, k6⟩
      have K6 : Hid (Keeps no wr w6) := K5.out.trans k6
      have O36 : Hid (Own PE w6 o3 c3 L) := O35.out.keepsN k6
      have O56 : Hid (Own PE w6 o5 c5 L) := ho5.keepsN k6
      clear k6 O35 ho5
      go_wp2_with fail
      refine (names_any w6 o6 n6 c6 xs hn6.out HS.out ho6.sl).mono ?_
      rintro e w7 ⟨v, rfl, o7, n7, c7, rfl, hn7, ho7, _, k7⟩
      have K7 : Hid (Keeps no wr w7) := K6.out.trans k7
      have O37 : Hid (Own PE w7 o3 c3 L) := O36.out.keepsN k7
      have O57 : Hid (Own PE w7 o5 c5 L) := O56.out.keepsN k7
      have h8 := sorted_any w7 o7 n7 c7 (kys xs) hn7.out (by unfold Small; rw [kys_length]; exact HS.out) HF.out.keys ho7.sl
      rw [HE3.out, HLL3.out] at h8
      clear k7 O36 O56 ho6
      go_wp2_with fail
      refine h8.mono ?_
      rintro e w8 ⟨v, rfl, o8, n8, c8, rfl, hn8, ho8, _, k8⟩
      have K8 : Hid (Keeps no wr w8) := K7.out.trans k8
      have O38 : Hid (Own PE w8 o3 c3 L) := O37.out.keepsN k8
      have O58 : Hid (Own PE w8 o5 c5 L) := O57.out.keepsN k8
      have O88 : Hid (Own TE w8 o8 c8 L3) := ho8
      clear k8 O37 O57 ho7 ho8 h8
      go_wp2_with fail
      refine (sameP_yes w8 o3 n3 c3 o5 n5 c5 L hn3.out hn5.out HLS.out O38.out.sl O58.out.sl).mono ?_
      rintro e w9 ⟨rfl, k9⟩
      have K9 : Hid (Keeps no wr w9) := K8.out.trans k9
      have O39 : Hid (Own PE w9 o3 c3 L) := O38.out.keepsN k9
      have O89 : Hid (Own TE w9 o8 c8 L3) := O88.out.keepsN k9
      clear k9 O38 O58 O88
      cases hv : valP xs
      · have hEv : E = 40 := by rw [← HE.out, hv]; rfl
        have hLv : L = [] := by rw [← HLL.out, hv]; rfl
        have HV : Hid (valP xs = false) := hv
        clear hv
        subst hEv
        have hn30 : n3 = 0 := by have := hn3.out; rw [hLv] at this; simpa using this
        subst hn30
        go_wp2_with fail
        refine (ownPairs_any w9 a n c xs HA.out (hs.keepsN (KR.out.trans K9.out)) HS.out).mono ?_
        rintro e w10 ⟨v, rfl, o10, n10, c10, rfl, hn10, ho10, _, k10⟩
        have K10 : Hid (Keeps no wr w10) := K9.out.trans k10
        have h11 := validPairs_any w10 o10 n10 c10 xs hn10.out (by have := HL.out; omega) HF.out ho10.sl
        rw [HV.out] at h11
        clear k10
        go_wp2_with fail
        refine h11.mono ?_
        rintro e w11 ⟨rfl, k11⟩
        go_wp2_with fail
        go_ret
        exact ⟨rfl, KR.out.trans (K10.out.trans k11)⟩
      · have hEv : E = 0 := by rw [← HE.out, hv]; rfl
        have hKv := valP_keys hv
        have hE3v : E3 = 0 := by rw [← HE3.out, hKv]; rfl
        have HLv : Hid (nrm xs = L) := by rw [← HLL.out, hv]; exact rfl
        have HL3v : Hid (isT (kys xs) = L3) := by rw [← HLL3.out, hKv]; exact rfl
        have L3K : Hid (valK L3 = true ∧ isT L3 = L3 ∧ Inc lts L3 ∧ kys L = L3) := by
          rw [← HL3v.out, ← HLv.out]
          exact ⟨valK_isT hKv, isT_isT _, isT_inc hKv, kys_nrm hv⟩
        have LLn : Hid (L.length = xs.length ∧ L3.length = xs.length ∧ Small L3 ∧ (∀ x ∈ L3, x.size ≤ maxLen) ∧ 0 < n) := by
          refine ⟨by rw [← HLv.out]; exact nrm_length xs, by rw [← HL3v.out, isT_length, kys_length], ?_, ?_, ?_⟩
          · show _ ≤ _
            rw [← HL3v.out, isT_length, kys_length]; exact HS.out
          · intro x hx
            rw [← HL3v.out] at hx
            exact HF.out.keys x ((isort_perm e0 (kys xs)).mem_iff.1 hx)
          · have := valP_size hv; have := HA.out; omega
        clear hKv hv
        subst hEv hE3v
        have q3 : (n3 : Int) = n := by have := hn3.out; have := LLn.out.1; have := HA.out; omega
        have q8 : (n8 : Int) = n := by have := hn8.out; have := LLn.out.2.1; have := HA.out; omega
        have Q38 : Hid ((n3 : Int) = n ∧ (n8 : Int) = n) := ⟨q3, q8⟩
        clear q3 q8
        go_wp2_with fail
        refine (own_any w9 o8 n8 c8 L3 hn8.out O89.out.sl LLn.out.2.2.1).mono ?_
        rintro e w10 ⟨v, rfl, o10, n10, c10, rfl, hn10, ho10, _, k10⟩
        have K10 : Hid (Keeps no wr w10) := K9.out.trans k10
        have O310 : Hid (Own PE w10 o3 c3 L) := O39.out.keepsN k10
        have O810 : Hid (Own TE w10 o8 c8 L3) := O89.out.keepsN k10
        have h11 := sorted_any w10 o10 n10 c10 L3 hn10.out LLn.out.2.2.1 LLn.out.2.2.2.1 ho10.sl
        rw [L3K.out.1, L3K.out.2.1] at h11
        simp only [if_true] at h11
        clear k10 O39 O89
        go_wp2_with fail
        refine h11.mono ?_
        rintro e w11 ⟨v, rfl, o11, n11, c11, rfl, hn11, ho11, _, k11⟩
        have K11 : Hid (Keeps no wr w11) := K10.out.trans k11
        have O311 : Hid (Own PE w11 o3 c3 L) := O310.out.keepsN k11
        have O811 : Hid (Own TE w11 o8 c8 L3) := O810.out.keepsN k11
        clear k11 O310 O810 h11 ho10
        go_wp2_with fail
        refine (same_yes w11 o8 n8 c8 o11 n11 c11 L3 hn8.out hn11.out LLn.out.2.2.1 O811.out.sl ho11.sl).mono ?_
        rintro e w12 ⟨rfl, k12⟩
        have K12 : Hid (Keeps no wr w12) := K11.out.trans k12
        have O312 : Hid (Own PE w12 o3 c3 L) := O311.out.keepsN k12
        have O812 : Hid (Own TE w12 o8 c8 L3) := O811.out.keepsN k12
        clear k12 O311 O811 ho11
        go_wp2_with fail
        refine (ownPairs_any w12 o3 n3 c3 L hn3.out O312.out.sl HLS.out).mono ?_
        rintro e w13 ⟨v, rfl, o13, n13, c13, rfl, hn13, ho13, _, k13⟩
        have K13 : Hid (Keeps no wr w13) := K12.out.trans k13
        have O813 : Hid (Own TE w13 o8 c8 L3) := O812.out.keepsN k13
        have h14 := names_any w13 o13 n13 c13 L hn13.out HLS.out ho13.sl
        rw [L3K.out.2.2.2] at h14
        clear k13 O312 O812
        go_wp2_with fail
        refine h14.mono ?_
        rintro e w14 ⟨v, rfl, o14, n14, c14, rfl, hn14, ho14, _, k14⟩
        have K14 : Hid (Keeps no wr w14) := K13.out.trans k14
        have O814 : Hid (Own TE w14 o8 c8 L3) := O813.out.keepsN k14
        clear k14 O813 ho13 h14
        go_wp2_with fail
        refine (same_yes w14 o8 n8 c8 o14 n14 c14 L3 hn8.out hn14.out LLn.out.2.2.1 O814.out.sl ho14.sl).mono ?_
        rintro e w15 ⟨rfl, k15⟩
        have K15 : Hid (Keeps no wr w15) := K14.out.trans k15
        have O815 : Hid (Own TE w15 o8 c8 L3) := O814.out.keepsN k15
        clear k15 O814 ho14
        go_wp2_with fail
        refine (own_any w15 o8 n8 c8 L3 hn8.out O815.out.sl LLn.out.2.2.1).mono ?_
        rintro e w16 ⟨v, rfl, o16, n16, c16, rfl, hn16, ho16, _, k16⟩
        have K16 : Hid (Keeps no wr w16) := K15.out.trans k16
        have O816 : Hid (Own TE w16 o8 c8 L3) := O815.out.keepsN k16
        have h17 := valid_any w16 o16 n16 c16 L3 hn16.out LLn.out.2.2.1 LLn.out.2.2.2.1 ho16.sl
        rw [L3K.out.1] at h17
        clear k16 O815
        go_wp2_with fail
        refine h17.mono ?_
        rintro e w17 ⟨rfl, k17⟩
        have K17 : Hid (Keeps no wr w17) := K16.out.trans k17
        have O817 : Hid (Own TE w17 o8 c8 L3) := O816.out.keepsN k17
        clear k17 O816 h17 ho16
        go_wp2_with fail
        refine (own_any w17 o8 n8 c8 L3 hn8.out O817.out.sl LLn.out.2.2.1).mono ?_
        rintro e w18 ⟨v, rfl, o18, n18, c18, rfl, hn18, ho18, _, k18⟩
        have K18 : Hid (Keeps no wr w18) := K17.out.trans k18
        clear k18 O817
        go_wp2_with fail
        refine (rising_inc w18 o18 n18 c18 L3 hn18.out LLn.out.2.2.1 ho18.sl L3K.out.2.2.1).mono ?_
        rintro e w19 ⟨rfl, k19⟩
        have K19 : Hid (Keeps no wr w19) := K18.out.trans k19
        clear k19 ho18
        obtain ⟨hW, hM, ht⟩ := HT.out LLn.out.2.2.2.2
        obtain ⟨b1, off1, rfl, d1, d2⟩ := (hs.keepsN (KR.out.trans K19.out)).atP (j := t) (by have := HA.out; omega)
        rcases hp : xs.getD t p0 with ⟨x1, x2⟩
        rw [hp] at d1 d2
        simp only at d1 d2
        have HP : Hid ((x1, x2) ∈ xs) := by rw [← hp]; exact getD_mem_lt p0 (by have := HA.out; omega)
        have q3 := Q38.out.1
        have q8 := Q38.out.2
        have hn0 : ¬ (n : Int) = 0 := by have := LLn.out.2.2.2.2; omega
        have hn0' : (0 : Int) < n := by omega
        have htI : (t : Int) < n := by omega
        clear hp
        have hn0N : ¬ n = 0 := by omega
        have hWn : IntKind.u64.wrap (n : Int) = (n : Int) := wrap_u64 n (by omega)
        have hWt2 : IntKind.i64.wrap (t : Int) = (t : Int) := wrap_i64 t (by omega)
        have S19 : Hid (Sl PE w19 (some ⟨b1, off1, none⟩) c xs) := hs.keepsN (KR.out.trans K19.out)
        have HB1 : Hid ((xs.length + [(x1, x2)].length) * PE.nb ≤ 140737488355328 ∧ xs.length + [(x1, x2)].length ≤ 140737488355328) := ⟨by have := HL.out; simp [PE]; omega, by have := HL.out; simp; omega⟩
        go_wp2_with fail
        go_region_law (first
          | (go_simp; go_at_call 18; refine (ownPairs_any _ _ n c xs HA.out ?_ HS.out).mono ?_; (first | exact S19.out.keepsN (kd rfl rfl rfl rfl) | exact S19.out.keepsN ((kd rfl rfl rfl rfl : Keeps no w19 w19.drew).alloc _)); rintro e w20 ⟨v, rfl, o20, n20, c20, rfl, hn20, ho20, hw20, k20⟩; (try (have q1 := k20.cellN d1)); (try (have q2 := k20.cellN d2)))
          | (refine step_app okP rfl (.tmp 148) (.tmp 158) rfl o20 n20 c20 xs ?_ hn20.out ?_ (some ⟨w20.heap.size, 0, none⟩) 1 1 [(x1, x2)] ?_ rfl ?_ ?_ HB1.out.1 HB1.out.2 ?_; rfl; exact ho20.keepsN ((Keeps.refl _ _).alloc _); rfl; exact (own_oneP w20 x1 x2).nil; exact (own_oneP w20 x1 x2).row; intro o21 c21 w21 ho21 hap21; have KN : Hid (Keeps no w19 w21) := (hap21.new (w0 := w19) (hw20.of_le (Nat.le_refl _)) ((Keeps.trans (kd rfl rfl rfl rfl : Keeps no w19 w19.drew) k20).alloc _)).2)
          | (refine step_app okP rfl (.tmp 148) (.tmp 158) rfl o20 n20 c20 xs ?_ hn20.out ho20 (some ⟨w19.heap.size, 0, none⟩) 1 1 [(x1, x2)] ?_ rfl ?_ ?_ HB1.out.1 HB1.out.2 ?_; rfl; rfl; exact (own_oneP w19.drew x1 x2).nil; exact (own_oneP w19.drew x1 x2).row.keepsN k20; intro o21 c21 w21 ho21 hap21; have KN : Hid (Keeps no w19 w21) := (hap21.new (w0 := w19) (hw20.of_le (by simp)) ((Keeps.alloc (kd rfl rfl rfl rfl : Keeps no w19 w19.drew) _).trans k20)).2))
        all_goals
          (have TW := twice_no HP.out
           have O21 : Hid (Own PE w21 o21 c21 (xs ++ [(x1, x2)])) := ho21
           have HNN : Hid (n20 + 1 = (xs ++ [(x1, x2)]).length) := show _ = _ by rw [List.length_append, hn20.out]; rfl
           have HLL4 : Hid ((xs ++ [(x1, x2)]).length ≤ 40000 ∧ Small (xs ++ [(x1, x2)]) ∧ FitsP (xs ++ [(x1, x2)])) := ⟨by have := HL.out; simp; omega, by have := HL.out; show _ ≤ _; simp; omega, HF.out.sub (fun p hp => by
             rcases List.mem_append.1 hp with h | h
             · exact h
             · rw [List.mem_singleton.1 h]; exact HP.out)⟩
           have TWH : Hid (valK (kys (xs ++ [(x1, x2)])) = false) := TW.1
           have h22 := norm_any w21 o21 (n20 + 1) c21 _ HNN.out HLL4.out.1 HLL4.out.2.2 O21.out.sl
           rw [TW.2] at h22
           clear TW ho21 hap21 ho20 hw20 k20 q3 q8
           go_wp2_with fail
           refine h22.mono ?_
           rintro e w22 ⟨v, rfl, o22, n22, c22, rfl, hn22, ho22, _, k22⟩
           have K22 : Hid (Keeps no w21 w22) := k22
           obtain rfl : n22 = 0 := hn22.out
           clear k22 h22 ho22
           go_wp2_with fail
           refine (names_any w22 o21 (n20 + 1) c21 _ HNN.out HLL4.out.2.1 (O21.out.sl.keepsN K22.out)).mono ?_
           rintro e w23 ⟨v, rfl, o23, n23, c23, rfl, hn23, ho23, _, k23⟩
           have K23 : Hid (Keeps no w21 w23) := K22.out.trans k23
           have h24 := sorted_any w23 o23 n23 c23 _ hn23.out (by unfold Small; rw [kys_length]; exact HLL4.out.2.1) HLL4.out.2.2.keys ho23.sl
           rw [TWH.out] at h24
           clear k23
           go_wp2_with fail
           refine h24.mono ?_
           rintro e w24 ⟨v, rfl, o24, n24, c24, rfl, hn24, ho24, _, k24⟩
           obtain rfl : n24 = 0 := hn24.out
           go_wp2_with fail
           go_ret
           exact ⟨rfl, KR.out.trans (K19.out.trans (KN.out.trans (K23.out.trans k24)))⟩)
end Go.Proofs.Ytpfbbfbghldmjaa
