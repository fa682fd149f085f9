import Derived.Test.YtpfbbfbghldmjaaN2
import Derived.BigRegion
namespace Go.Proofs.Ytpfbbfbghldmjaa
open Go.RowKit Go.Sort Orl
set_option linter.unusedVariables false
set_option linter.unusedSimpArgs false

set_option maxHeartbeats 8000000 in
set_option maxRecDepth 10000 in
theorem keysMemory_any (w : World) (op : Option Addr) (np cp : Nat) (oq : Option Addr) (nq cq : Nat) (sp sq : List Tx) (hnp : np = sp.length) (hnq : nq = sq.length) (hnp2 : np ≤ 140737488355328) (hnq2 : nq ≤ 140737488355328) (hfit : ∀ x ∈ sp, x.size ≤ 140737488355328) (hp : Sl TE w op cp sp) (hq : Sl TE w oq cq sq) :
    Calls Try.prog 5 #[.slice op np cp, .slice oq nq cq] w fun e w' => e = .returned (.bool true) ∧ Keeps no w w' := by
  have HP : Hid (np = sp.length ∧ np ≤ 140737488355328) := ⟨hnp, hnp2⟩
  have HQ : Hid (nq = sq.length ∧ nq ≤ 140737488355328) := ⟨hnq, hnq2⟩
  have HF : Hid (∀ x ∈ sp, x.size ≤ 140737488355328) := hfit
  clear hnp hnq hnp2 hnq2 hfit
  go_enter Try.func5, Try.ntmps5
  go_wp2_with fail
  refine (alive_any w).mono ?_
  rintro e w1 ⟨rfl, k1⟩
  have K1 : Hid (Keeps no w w1) := k1
  clear k1
  go_wp2_with fail
  refine (once_any w1 op np cp sp HP.out.1 HP.out.2 (hp.keepsN K1.out)).mono ?_
  rintro e w2 ⟨v, rfl, oA0, nA0, cA0, rfl, hnA0, hoA0, hwA0, k2⟩
  have K2 : Hid (Keeps no w w2) := K1.out.trans k2
  have N2 : Hid (New w oA0) := hwA0.of_le K1.out.size
  clear k2 hwA0
  go_wp2_with fail
  refine (once_any w2 oq nq cq sq HQ.out.1 HQ.out.2 (hq.keepsN K2.out)).mono ?_
  rintro e w3 ⟨v, rfl, oB, nB, cB, rfl, hnB, hoB, hwB, k3⟩
  have S3 : Hid (Own TE w3 oA0 cA0 (onc (sp.take 300)) ∧ Own TE w3 oB cB (onc (sq.take 300)) ∧ New w oB ∧ Keeps no w w3) := ⟨hoA0.keepsN k3, hoB, hwB.of_le K2.out.size, K2.out.trans k3⟩
  clear k3 hwB hoB hoA0
  go_upto_if 46 with fail
  go_cut [6] from 47 (fun s wc => ∃ (oA : Option Addr) (nA cA : Nat) (A : List Tx), s = .slice oA nA cA ∧ Hid (Set0 w wc A (onc (sq.take 300)) oA nA cA oB nB cB))
  case first =>
    have lA := onc_len (sp.take 300)
    have lB := onc_len (sq.take 300)
    rw [List.length_take] at lA lB
    have HLL : Hid ((onc (sp.take 300)).length ≤ 300 ∧ (onc (sq.take 300)).length ≤ 300) := ⟨by omega, by omega⟩
    clear lA lB
    by_cases h0 : nA0 = 0
    · subst h0
      go_wp2_with fail
      go_meet
      case rel =>
        have kk : Keeps no w3 (w3.alloc (.cells #[.string tK] 9)) := (Keeps.refl _ _).alloc _
        exact ⟨_, 1, 1, [tK], rfl, ⟨rfl, own_lit1 w3 tK, by simp [Inc], by simp, by simp, (fun x hx => by simp only [List.mem_singleton] at hx; subst hx; decide), new_fresh w _ S3.out.2.2.2.size _, hnB.out, S3.out.2.1.keepsN kk, onc_inc _, HLL.out.2, S3.out.2.2.1, S3.out.2.2.2.trans kk⟩⟩
    · have h0' : ¬ (nA0 : Int) = 0 := by omega
      have H0 : Hid (¬ nA0 = 0) := h0
      clear h0
      go_wp2_with fail
      go_meet
      case rel => exact ⟨oA0, nA0, cA0, _, rfl, ⟨hnA0.out, S3.out.1, onc_inc _, by have := hnA0.out; have := H0.out; omega, HLL.out.1, fun x hx => HF.out x (List.mem_of_mem_take ((onc_mem _ x).1 hx)), N2.out, hnB.out, S3.out.2.1, onc_inc _, HLL.out.2, S3.out.2.2.1, S3.out.2.2.2⟩⟩
  case rest =>
    obtain ⟨oA, nA, cA, A, rfl, H0⟩ := hcut
    obtain ⟨Bq, hBq⟩ : ∃ Bq, onc (sq.take 300) = Bq := ⟨_, rfl⟩
    rw [hBq] at H0
    clear hBq S3 K1 K2 N2
    go_wp2_with fail
    refine (own_any _ oA nA cA A H0.out.hnA H0.out.ownA.sl (by have := H0.out.leA; show _ ≤ _; omega)).mono ?_
    rintro e w5 ⟨v, rfl, of, nf, cf, rfl, hnf, hof, hwf, k5⟩
    have S5 : Hid (Keeps no wc w5 ∧ Own TE w5 of cf A ∧ New wc of) := ⟨k5, hof, hwf⟩
    have HLA : Hid (A.length ≤ 300) := H0.out.leA
    have HNF : Hid (nf = A.length ∧ nA = A.length) := ⟨hnf.out, H0.out.hnA⟩
    clear hof hwf k5
    have hN : (nA : Int) ≤ 300 := by have := HNF.out; have := HLA.out; omega
    go_wp2_with (at_builtin; refine wpList_app okT rfl _ _ rfl _ _ _ A rfl HNF.out.1 (S5.out.2.1.keepsN ((Keeps.refl _ _).alloc _)) _ _ _ [m1, m2] rfl rfl (litT w5 [m1, m2]).nil (litT w5 [m1, m2]).row (by have := HLA.out; simp [TE]; omega) (by have := HLA.out; simp; omega) ?_; intro o6 c6 w6 ho6 hap6; obtain ⟨hr6, hs6⟩ := cutT_h w6 o6 c6 (A ++ [m1, m2]) (nf + 2) nA _ rfl (by have := HNF.out.1; simp; omega) (by have := HNF.out; omega) ho6.sl)
    have k6 := hap6.new (w0 := wc) S5.out.2.2 (S5.out.1.alloc _)
    have S6 : Hid (Set0 w w6 A Bq oA nA cA oB nB cB ∧ Own TE w6 o6 c6 (A ++ [m1, m2]) ∧ New w o6 ∧ ∀ k, inO oA k → ¬ inO o6 k) := ⟨H0.out.keepsN k6.2, ho6, k6.1.of_le H0.out.kp.size, fun k h1 h2 => by have a1 := H0.out.ownA.lt k h1; have a2 := k6.1 k h2; omega⟩
    clear H0 S5 ho6 hap6 k6 hs6 hr6
    go_loopw [11, 12] (fun s11 s12 wr => ∃ (I : Nat) (z : Int) (v : Value), I ≤ nA ∧ s12 = .int .i64 z ∧ Hid (z = (I : Int) - 1) ∧ s11 = v ∧ Hid (Gives PE w6 ((prs A tV).take (nA - I)) v wr)) (fun _ s12 _ => ((intOf s12) + 1).toNat)
    case atStart => exact ⟨nA, _, _, Nat.le_refl _, rfl, rfl, rfl, ⟨none, 0, 0, rfl, (show 0 = _ by simp), by simpa using own_nil _, new_none _, Keeps.refl _ _⟩⟩
    case round =>
      obtain ⟨I, z, v, hI, rfl, hz, rfl, HG⟩ := hrel
      obtain ⟨op', m, d, rfl, hm, ho, hnw, hkp⟩ := HG.out
      by_cases h1 : 0 < I
      · obtain ⟨J, rfl⟩ : ∃ J, I = J + 1 := ⟨I - 1, by omega⟩
        obtain rfl : z = (J : Int) := by have := hz.out; omega
        obtain ⟨b1, off1, rfl, d1⟩ := (S6.out.1.ownA.sl.keepsN hkp).at (j := J) (by have := HNF.out; omega)
        obtain ⟨x, hx⟩ : ∃ x, x = A.getD J e0 := ⟨_, rfl⟩
        rw [← hx] at d1
        have HX : Hid (x = A.getD J e0) := hx
        have hJ : (J : Int) < nA := by omega
        have HLen : Hid (((prs A tV).take (nA - (J + 1))).length ≤ 300) := by rw [List.length_take, prs_length]; have := HLA.out; show _ ≤ _; omega
        clear hx
        go_wp2_with (at_builtin; refine wpList_app okP rfl _ _ rfl _ _ _ ((prs A tV).take (nA - (J + 1))) rfl hm.out (ho.keepsN ((Keeps.refl _ _).alloc _)) _ _ _ [(x, tV)] rfl rfl (own_oneP _ x tV).nil (own_oneP _ x tV).row (by have := HLen.out; simp only [PE, List.length_cons, List.length_nil]; omega) (by have := HLen.out; simp only [List.length_cons, List.length_nil]; omega) ?_; intro o7 c7 w7 ho7 hap7)
        go_roundw
        case rel =>
          have k7 := hap7.new (w0 := w6) hnw (hkp.alloc _)
          refine ⟨J, _, _, by omega, rfl, show _ = _ by go_num, rfl, ?_⟩
          show Gives PE w6 ((prs A tV).take (nA - J)) _ _
          have e1 : nA - J = (nA - (J + 1)) + 1 := by omega
          have e2 : A.length - 1 - (nA - (J + 1)) = J := by have := HNF.out; omega
          rw [e1, prs_take A tV _ (by have := HNF.out; omega), e2, ← HX.out]
          exact ⟨o7, _, c7, rfl, (show m + 1 = _ by rw [List.length_append, ← hm.out]; rfl), ho7, k7.1, k7.2⟩
        case measure => simp [intOf] <;> omega
      · obtain rfl : I = 0 := by omega
        obtain rfl : z = -1 := by have := hz.out; omega
        have he : (prs A tV).take (nA - 0) = prs A tV := List.take_of_length_le (by rw [prs_length]; have := HNF.out; omega)
        rw [he] at hm ho
        have HM : Hid (m = (prs A tV).length ∧ m = nA) := ⟨hm.out, by have := hm.out; rw [prs_length] at this; have := HNF.out; omega⟩
        have HLen : Hid ((prs A tV).length ≤ 300) := by rw [prs_length]; exact HLA.out
        go_wp2_with (at_builtin; refine wpList_app okP rfl _ _ rfl _ _ _ (prs A tV) rfl hm.out (ho.keepsN ((Keeps.refl _ _).alloc _)) _ _ _ [(m3, tE)] rfl rfl (own_oneP _ m3 tE).nil (own_oneP _ m3 tE).row (by have := HLen.out; simp only [PE, List.length_cons, List.length_nil]; omega) (by have := HLen.out; simp only [List.length_cons, List.length_nil]; omega) ?_; intro o8 c8 w8 ho8 hap8; obtain ⟨hr8, hs8⟩ := cutP_h w8 o8 c8 (prs A tV ++ [(m3, tE)]) (m + 1) nA _ rfl (by have := HM.out.1; simp only [List.length_append, List.length_cons, List.length_nil]; omega) (by have := HM.out.2; omega) ho8.sl)
        have k8 := hap8.new (w0 := w6) hnw (hkp.alloc _)
        have S8 : Hid (Set0 w w8 A Bq oA nA cA oB nB cB ∧ Own TE w8 o6 c6 (A ++ [m1, m2]) ∧ New w o6 ∧ Own PE w8 o8 c8 (prs A tV ++ [(m3, tE)]) ∧ New w o8 ∧ ∀ k, inO oA k → ¬ inO o6 k) := ⟨S6.out.1.keepsN k8.2, S6.out.2.1.keepsN k8.2, S6.out.2.2.1, ho8, k8.1.of_le S6.out.1.kp.size, S6.out.2.2.2⟩
        have hin : Sl TE w8 o6 c6 A := by
          have := (cutT_h w8 o6 c6 (A ++ [m1, m2]) (nA + 2) nA _ rfl (by have := HNF.out.2; simp; omega) (by omega) S8.out.2.1.sl).2
          rwa [List.take_append_of_le_length (by have := HNF.out.2; omega), List.take_of_length_le (by have := HNF.out.2; omega)] at this
        have hgv : Sl PE w8 o8 c8 (prs A tV) := by
          rwa [List.take_append_of_le_length (by rw [prs_length]; have := HNF.out.2; omega), List.take_of_length_le (by rw [prs_length]; have := HNF.out.2; omega)] at hs8
        have HIN : Hid (Sl TE w8 o6 c6 A ∧ Sl PE w8 o8 c8 (prs A tV)) := ⟨hin, hgv⟩
        obtain ⟨L1, hL1⟩ : ∃ L1, (if valK A then isT A else []) = L1 := ⟨_, rfl⟩
        obtain ⟨E1, hE1⟩ : ∃ E1 : Int, (if valK A then (0 : Int) else 40) = E1 := ⟨_, rfl⟩
        obtain ⟨NN, hNN⟩ : ∃ NN, (if valP (prs A tV) then nrm (prs A tV) else []) = NN := ⟨_, rfl⟩
        obtain ⟨E2, hE2⟩ : ∃ E2 : Int, (if valP (prs A tV) then (0 : Int) else 40) = E2 := ⟨_, rfl⟩
        have HLV : Hid ((if valK A then isT A else []) = L1 ∧ (if valK A then (0 : Int) else 40) = E1 ∧ (if valP (prs A tV) then nrm (prs A tV) else []) = NN ∧ (if valP (prs A tV) then (0 : Int) else 40) = E2) := ⟨hL1, hE1, hNN, hE2⟩
        have HFP : Hid (FitsP (prs A tV) ∧ kys (prs A tV) = A.reverse) := ⟨fun p hp => by
          simp only [prs, List.mem_map, List.mem_reverse] at hp
          obtain ⟨x, hx, rfl⟩ := hp
          exact ⟨S8.out.1.fitM x hx, by show tV.size ≤ maxLen; unfold maxLen; decide⟩, by simp [kys, prs, List.map_map, Function.comp_def]⟩
        have HPL : Hid ((prs A tV).length ≤ 300) := HLen
        clear hL1 hE1 hNN hE2 hin hgv hs8 hr8 ho8 hap8 k8 S6 HG hm ho hnw hkp hz h1 he hI
        go_loopw [14, 15, 16] (fun s14 s15 s16 wr => ∃ (k : Nat) (oL : Option Addr) (mL cL : Nat) (LL : List SlT) (oN : Option Addr) (mN cN : Nat) (NL : List SlP), k ≤ 2 ∧ s16 = .int .i64 k ∧ s14 = .slice oL mL cL ∧ s15 = .slice oN mN cN ∧ Hid (MemSt w8 [L1, mg lts true true true A Bq, mg lts false true false A Bq, mg lts true false false A Bq, mg lts true true true Bq [tZ], A.reverse] NN k oL mL cL LL oN mN cN NL wr)) (fun _ _ s16 _ => 2 - (intOf s16).toNat)
        case atStart => exact ⟨0, none, 0, 0, [], none, 0, 0, [], by omega, rfl, rfl, rfl, ⟨lots_nil _, rfl, rfl, fun j hj => absurd hj (Nat.not_lt_zero _), fun j hj => absurd hj (Nat.not_lt_zero _), new_none _, own_nil _, rfl, rfl, fun j hj => absurd hj (Nat.not_lt_zero _), new_none _, Keeps.refl _ _⟩⟩
        case round =>
          obtain ⟨k, oL, mL, cL, LL, oN, mN, cN, NL, hk, rfl, rfl, rfl, HM2⟩ := hrel
          by_cases hk2 : k < 2
          · have hsmA : Small A := by have := HLA.out; show _ ≤ _; omega
            have hv1 := sorted_any wr o6 nA c6 A HNF.out.2 hsmA S8.out.1.fitM (HIN.out.1.keepsN HM2.out.kp)
            rw [HLV.out.1, HLV.out.2.1] at hv1
            clear hsmA
            go_wp2_with fail
            refine hv1.mono ?_
            rintro e v1 ⟨v, rfl, p1, n1, d1, rfl, hn1, hp1, hw1, j1⟩
            have J1 : Hid (Keeps no w8 v1 ∧ wr.heap.size ≤ v1.heap.size) := ⟨HM2.out.kp.trans j1, j1.size⟩
            have R1 : Hid (Own TE v1 p1 d1 L1 ∧ Born wr.heap.size v1.heap.size p1 ∧ Keeps no wr v1) := ⟨hp1, born_of hw1 hp1, j1⟩
            clear hp1 hw1 j1 hv1
            go_wp2_with fail
            refine (union_inc v1 o6 nA c6 oB nB cB A Bq HNF.out.2 S8.out.1.hnB (by have := HLA.out; omega) (by have := S8.out.1.leB; omega) (HIN.out.1.keepsN J1.out.1) (S8.out.1.ownB.sl.keepsN J1.out.1) S8.out.1.incA S8.out.1.incB).mono ?_
            rintro e v2 ⟨v, rfl, p2, n2, d2, rfl, hn2, hp2, hw2, j2⟩
            have J2 : Hid (Keeps no w8 v2 ∧ v1.heap.size ≤ v2.heap.size) := ⟨J1.out.1.trans j2, j2.size⟩
            have R2 : Hid (Own TE v2 p2 d2 (mg lts true true true A Bq) ∧ Born v1.heap.size v2.heap.size p2 ∧ Keeps no v1 v2) := ⟨hp2, born_of hw2 hp2, j2⟩
            clear hp2 hw2 j2
            go_wp2_with fail
            refine (common_inc v2 o6 nA c6 oB nB cB A Bq HNF.out.2 S8.out.1.hnB (by have := HLA.out; omega) (by have := S8.out.1.leB; omega) (HIN.out.1.keepsN J2.out.1) (S8.out.1.ownB.sl.keepsN J2.out.1) S8.out.1.incA S8.out.1.incB).mono ?_
            rintro e v3 ⟨v, rfl, p3, n3, d3, rfl, hn3, hp3, hw3, j3⟩
            have J3 : Hid (Keeps no w8 v3 ∧ v2.heap.size ≤ v3.heap.size) := ⟨J2.out.1.trans j3, j3.size⟩
            have R3 : Hid (Own TE v3 p3 d3 (mg lts false true false A Bq) ∧ Born v2.heap.size v3.heap.size p3 ∧ Keeps no v2 v3) := ⟨hp3, born_of hw3 hp3, j3⟩
            clear hp3 hw3 j3
            go_wp2_with fail
            refine (minus_inc v3 o6 nA c6 oB nB cB A Bq HNF.out.2 S8.out.1.hnB (by have := HLA.out; omega) (by have := S8.out.1.leB; omega) (HIN.out.1.keepsN J3.out.1) (S8.out.1.ownB.sl.keepsN J3.out.1) S8.out.1.incA S8.out.1.incB).mono ?_
            rintro e v4 ⟨v, rfl, p4, n4, d4, rfl, hn4, hp4, hw4, j4⟩
            have J4 : Hid (Keeps no w8 v4 ∧ v3.heap.size ≤ v4.heap.size) := ⟨J3.out.1.trans j4, j4.size⟩
            have R4 : Hid (Own TE v4 p4 d4 (mg lts true false false A Bq) ∧ Born v3.heap.size v4.heap.size p4 ∧ Keeps no v3 v4) := ⟨hp4, born_of hw4 hp4, j4⟩
            clear hp4 hw4 j4
            go_wp2_with fail
            refine (union_inc (v4.alloc (.cells #[.string tZ] 9)) oB nB cB (some ⟨v4.heap.size, 0, none⟩) 1 1 Bq [tZ] S8.out.1.hnB rfl (by have := S8.out.1.leB; omega) (by simp) (S8.out.1.ownB.sl.keepsN (J4.out.1.alloc _)) (litT v4 [tZ]) S8.out.1.incB (by simp [Inc])).mono ?_
            rintro e v5 ⟨v, rfl, p5, n5, d5, rfl, hn5, hp5, hw5, j5⟩
            have k45 : Keeps no v4 v5 := ((Keeps.refl _ _).alloc _).trans j5
            have J5 : Hid (Keeps no w8 v5 ∧ v4.heap.size ≤ v5.heap.size) := ⟨J4.out.1.trans k45, k45.size⟩
            have R5 : Hid (Own TE v5 p5 d5 (mg lts true true true Bq [tZ]) ∧ Born v4.heap.size v5.heap.size p5 ∧ Keeps no v4 v5) := ⟨hp5, born_of (hw5.of_le (by simp)) hp5, k45⟩
            clear hp5 hw5 j5 k45
            have hv6 := norm_any v5 o8 nA c8 (prs A tV) (by rw [prs_length]; exact HNF.out.2) (by have := HPL.out; omega) HFP.out.1 (HIN.out.2.keepsN J5.out.1)
            rw [HLV.out.2.2.1, HLV.out.2.2.2] at hv6
            go_wp2_with fail
            refine hv6.mono ?_
            rintro e v6 ⟨v, rfl, p6, n6, d6, rfl, hn6, hp6, hw6, j6⟩
            have J6 : Hid (Keeps no w8 v6 ∧ v5.heap.size ≤ v6.heap.size) := ⟨J5.out.1.trans j6, j6.size⟩
            have R6 : Hid (Own PE v6 p6 d6 NN ∧ New w8 p6 ∧ Keeps no v5 v6) := ⟨hp6, hw6.of_le J5.out.1.size, j6⟩
            clear hp6 hw6 j6 hv6
            have hv7 := names_any v6 o8 nA c8 (prs A tV) (by rw [prs_length]; exact HNF.out.2) (by have := HPL.out; show _ ≤ _; omega) (HIN.out.2.keepsN J6.out.1)
            rw [HFP.out.2] at hv7
            go_wp2_with fail
            refine hv7.mono ?_
            rintro e v7 ⟨v, rfl, p7, n7, d7, rfl, hn7, hp7, hw7, j7⟩
            have J7 : Hid (Keeps no w8 v7 ∧ v6.heap.size ≤ v7.heap.size) := ⟨J6.out.1.trans j7, j7.size⟩
            have R7 : Hid (Own TE v7 p7 d7 A.reverse ∧ Born v6.heap.size v7.heap.size p7 ∧ Keeps no v6 v7) := ⟨hp7, born_of hw7 hp7, j7⟩
            clear hp7 hw7 j7 hv7
            obtain ⟨NS, hNS⟩ : ∃ NS : List SlT, NS = [⟨p1, d1, L1⟩, ⟨p2, d2, mg lts true true true A Bq⟩, ⟨p3, d3, mg lts false true false A Bq⟩, ⟨p4, d4, mg lts true false false A Bq⟩, ⟨p5, d5, mg lts true true true Bq [tZ]⟩, ⟨p7, d7, A.reverse⟩] := ⟨_, rfl⟩
            have hx : Sl XE (v7.alloc (.cells #[.slice p1 n1 d1, .slice p2 n2 d2, .slice p3 n3 d3, .slice p4 n4 d4, .slice p5 n5 d5, .slice p7 n7 d7] 22)) (some ⟨v7.heap.size, 0, none⟩) 6 NS := by
              have := litX v7 NS
              rw [hNS] at this ⊢
              rw [hn1.out, hn2.out, hn3.out, hn4.out, hn5.out, hn7.out]
              exact this
            have HNS : Hid (NS = [⟨p1, d1, L1⟩, ⟨p2, d2, mg lts true true true A Bq⟩, ⟨p3, d3, mg lts false true false A Bq⟩, ⟨p4, d4, mg lts true false false A Bq⟩, ⟨p5, d5, mg lts true true true Bq [tZ]⟩, ⟨p7, d7, A.reverse⟩]) := hNS
            have HX : Hid (Sl XE (v7.alloc (.cells #[.slice p1 n1 d1, .slice p2 n2 d2, .slice p3 n3 d3, .slice p4 n4 d4, .slice p5 n5 d5, .slice p7 n7 d7] 22)) (some ⟨v7.heap.size, 0, none⟩) 6 NS ∧ 6 = NS.length) := ⟨hx, by rw [hNS]; rfl⟩
            have W7 : Hid (Keeps no wr v7) := ((((((R1.out.2.2.trans R2.out.2.2).trans R3.out.2.2).trans R4.out.2.2).trans R5.out.2.2).trans R6.out.2.2).trans R7.out.2.2)
            have HLE : Hid (LL.length ≤ 12 ∧ NL.length ≤ 2) := ⟨by have := HM2.out.len; omega, by have := HM2.out.lenN; omega⟩
            clear hNS hx
            go_wp2_with (at_builtin; first
              | (refine wpList_app okX rfl _ _ rfl _ _ _ LL rfl HM2.out.hmL (HM2.out.lots.own.keepsN (W7.out.alloc _)) _ _ _ NS rfl HX.out.2 HX.out.1.nil HX.out.1.row (by have := HX.out.2; have := HLE.out.1; simp only [XE]; omega) (by have := HX.out.2; have := HLE.out.1; omega) ?_; intro oL' cL' x1 hoL hapL; have hY1 : Own YE x1 oN cN NL := (HM2.out.ownN.keepsN (W7.out.alloc _)).keeps hapL.kp (fun b h1 h2 => tags_ne (by decide) HM2.out.ownN HM2.out.lots.own b h1 h2); have hy6 : Row YE (x1.alloc (.cells #[.slice p6 n6 d6] 32)) (some ⟨x1.heap.size, 0, none⟩) [⟨p6, d6, NN⟩] := (by have := (litY x1 [⟨p6, d6, NN⟩]).row; rw [hn6.out]; exact this))
              | (refine wpList_app okY rfl _ _ rfl _ _ _ NL rfl HM2.out.hmN (hY1.keepsN ((Keeps.refl _ _).alloc _)) _ _ _ [⟨p6, d6, NN⟩] rfl rfl (fun h => by cases h) hy6 (by have := HLE.out.2; simp only [YE, List.length_cons, List.length_nil]; omega) (by have := HLE.out.2; simp only [List.length_cons, List.length_nil]; omega) ?_; intro oN' cN' x2 hoN hapN))
            go_roundw
            case rel =>
              have h7 := HM2.out
              have e1 : Own TE v7 p1 d1 L1 := R1.out.1.keepsN (((((R2.out.2.2.trans R3.out.2.2).trans R4.out.2.2).trans R5.out.2.2).trans R6.out.2.2).trans R7.out.2.2)
              have e2 : Own TE v7 p2 d2 (mg lts true true true A Bq) := R2.out.1.keepsN ((((R3.out.2.2.trans R4.out.2.2).trans R5.out.2.2).trans R6.out.2.2).trans R7.out.2.2)
              have e3 : Own TE v7 p3 d3 (mg lts false true false A Bq) := R3.out.1.keepsN (((R4.out.2.2.trans R5.out.2.2).trans R6.out.2.2).trans R7.out.2.2)
              have e4 : Own TE v7 p4 d4 (mg lts true false false A Bq) := R4.out.1.keepsN ((R5.out.2.2.trans R6.out.2.2).trans R7.out.2.2)
              have e5 : Own TE v7 p5 d5 (mg lts true true true Bq [tZ]) := R5.out.1.keepsN (R6.out.2.2.trans R7.out.2.2)
              have e7 : Own TE v7 p7 d7 A.reverse := R7.out.1
              have z1 := J1.out.2
              have z2 := J2.out.2
              have z3 := J3.out.2
              have z4 := J4.out.2
              have z5 := J5.out.2
              have z6 := J6.out.2
              have z7 := J7.out.2
              have z0 := h7.kp.size
              have b1 := R1.out.2.1
              have b2 := R2.out.2.1
              have b3 := R3.out.2.1
              have b4 := R4.out.2.1
              have b5 := R5.out.2.1
              have b7 := R7.out.2.1
              have hNSn := HNS.out
              subst hNSn
              have hE7 : ∀ j, j < 6 → Own TE v7 ((([⟨p1, d1, L1⟩, ⟨p2, d2, mg lts true true true A Bq⟩, ⟨p3, d3, mg lts false true false A Bq⟩, ⟨p4, d4, mg lts true false false A Bq⟩, ⟨p5, d5, mg lts true true true Bq [tZ]⟩, ⟨p7, d7, A.reverse⟩] : List SlT)).getD j s0).o ((([⟨p1, d1, L1⟩, ⟨p2, d2, mg lts true true true A Bq⟩, ⟨p3, d3, mg lts false true false A Bq⟩, ⟨p4, d4, mg lts true false false A Bq⟩, ⟨p5, d5, mg lts true true true Bq [tZ]⟩, ⟨p7, d7, A.reverse⟩] : List SlT)).getD j s0).c ((([⟨p1, d1, L1⟩, ⟨p2, d2, mg lts true true true A Bq⟩, ⟨p3, d3, mg lts false true false A Bq⟩, ⟨p4, d4, mg lts true false false A Bq⟩, ⟨p5, d5, mg lts true true true Bq [tZ]⟩, ⟨p7, d7, A.reverse⟩] : List SlT)).getD j s0).xs := by
                intro j hj
                rcases j with _ | _ | _ | _ | _ | _ | j
                · exact e1
                · exact e2
                · exact e3
                · exact e4
                · exact e5
                · exact e7
                · omega
              refine ⟨k + 1, oL', _, cL', LL ++ [⟨p1, d1, L1⟩, ⟨p2, d2, mg lts true true true A Bq⟩, ⟨p3, d3, mg lts false true false A Bq⟩, ⟨p4, d4, mg lts true false false A Bq⟩, ⟨p5, d5, mg lts true true true Bq [tZ]⟩, ⟨p7, d7, A.reverse⟩], oN', _, cN', NL ++ [⟨p6, d6, NN⟩], by omega, by go_num, rfl, rfl, ?_⟩
              refine h7.push _ v7 x1 x2 (lo6 wr.heap.size v1.heap.size v2.heap.size v3.heap.size v4.heap.size v6.heap.size v7.heap.size) rfl W7.out hE7 ?_ ?_ (Nat.le_refl _) (Nat.le_refl _) ?_ hoL hapL (R6.out.1.keepsN R7.out.2.2) R6.out.2.1 hoN hapN
              · intro j hj
                rcases j with _ | _ | _ | _ | _ | _ | j
                · exact b1
                · exact b2
                · exact b3
                · exact b4
                · exact b5.mono (Nat.le_refl _) z6
                · exact b7
                · omega
              · exact lo6_mono _ _ _ _ _ _ _ z1 z2 z3 z4 (by omega) z7
              · intro j hj
                rcases j with _ | _ | _ | _ | _ | _ | j
                · rfl
                · rfl
                · rfl
                · rfl
                · rfl
                · rfl
                · omega
            case measure => simp [intOf] <;> omega
          · have hk22 : k = 2 := by omega
            have hkz : ((k : Nat) : Int) = 2 := by omega
            rw [hkz]
            subst hk22
            rename World => wz
            obtain rfl : mL = 12 := by have := HM2.out.hmL; have := HM2.out.len; omega
            obtain rfl : mN = 2 := by have := HM2.out.hmN; have := HM2.out.lenN; omega
            have hmA : m = nA := HM.out.2
            have hmf : m = nf := by have := HNF.out; omega
            subst hmA
            subst hmf
            have HP1 : Hid (m = A.length ∧ 1 ≤ m) := ⟨HNF.out.1, by have := HNF.out.1; have := S8.out.1.pos; omega⟩
            have HTL : Hid (∀ j, ([L1, mg lts true true true A Bq, mg lts false true false A Bq, mg lts true false false A Bq, mg lts true true true Bq [tZ], A.reverse].getD j []).length ≤ 1000) := tl_le HLA.out S8.out.1.leB HLV.out.1
            clear hkz hk2 hk
            go_wp2_with fail
            go_loopw [29, 30] (fun s29 s30 wr => ∃ (i : Nat) (oW : Option Addr) (mW cW : Nat) (WL : List SlT), i ≤ 12 ∧ s30 = .int .i64 i ∧ s29 = .slice oW mW cW ∧ Hid (WasSt wz LL i oW mW cW WL wr)) (fun _ s30 _ => 12 - (intOf s30).toNat)
            case atStart => exact ⟨0, none, 0, 0, [], by omega, rfl, rfl, was_nil wz LL⟩
            case round =>
              obtain ⟨i, oW, mW, cW, WL, hi, rfl, rfl, HW⟩ := hrel
              by_cases hi2 : i < 12
              · obtain ⟨bL, offL, eL⟩ := HM2.out.lots.own.adr (by rw [HM2.out.len]; omega)
                subst eL
                have dL := (HM2.out.lots.own.sl.keepsN HW.out.kp).atXS (j := i) (by rw [HM2.out.len]; omega)
                have hown := (HM2.out.lots.each i (by rw [HM2.out.len]; omega)).keepsN HW.out.kp
                have hsz := HTL.out (i % 6)
                rw [← HM2.out.cont i (by rw [HM2.out.len]; omega)] at hsz
                obtain ⟨si, hsi⟩ : ∃ si, LL.getD i s0 = si := ⟨_, rfl⟩
                rw [hsi] at dL hown hsz
                obtain ⟨o, c, xs⟩ := si
                simp only at dL hown hsz
                obtain ⟨n, hn⟩ : ∃ n, xs.length = n := ⟨_, rfl⟩
                rw [hn] at dL
                have HX : Hid (LL.getD i s0 = ⟨o, c, xs⟩ ∧ n = xs.length ∧ xs.length ≤ 1000 ∧ Own TE wr o c xs) := ⟨hsi, hn.symm, hsz, hown⟩
                have hI : (i : Int) < 12 := by omega
                clear hsi hn hsz hown
                go_wp2_with fail
                refine (own_any wr o n c xs HX.out.2.1 HX.out.2.2.2.sl (by have := HX.out.2.2.1; show _ ≤ _; omega)).mono ?_
                rintro e v1 ⟨v, rfl, p1, n1, d1, rfl, hn1, hp1, hw1, j1⟩
                have R1 : Hid (Own TE v1 p1 d1 xs ∧ New wr p1 ∧ Keeps no wr v1 ∧ WL.length ≤ 12) := ⟨hp1, hw1, j1, by have := HW.out.len; omega⟩
                have hx1 : Row XE (v1.alloc (.cells #[.slice p1 n1 d1] 22)) (some ⟨v1.heap.size, 0, none⟩) [⟨p1, d1, xs⟩] := by
                  have := (litX v1 [⟨p1, d1, xs⟩]).row
                  rw [hn1.out]
                  exact this
                clear hp1 hw1 j1 dL
                go_wp2_with (at_builtin; refine wpList_app okX rfl _ _ rfl _ _ _ WL rfl HW.out.hm (HW.out.own.keepsN (R1.out.2.2.1.alloc _)) _ _ _ [⟨p1, d1, xs⟩] rfl rfl (fun h => by cases h) hx1 (by have := R1.out.2.2.2; simp only [XE, List.length_cons, List.length_nil]; omega) (by have := R1.out.2.2.2; simp only [List.length_cons, List.length_nil]; omega) ?_; intro oW' cW' x1 hoW hapW)
                go_roundw
                case rel => exact ⟨i + 1, oW', _, cW', _, by omega, by go_num, rfl, HW.out.push R1.out.1 R1.out.2.1 R1.out.2.2.1 (by rw [HX.out.1]) hoW hapW⟩
                case measure => simp [intOf] <;> omega
              · have hi12 : i = 12 := by omega
                have hiz : ((i : Nat) : Int) = 12 := by omega
                rw [hiz]
                subst hi12
                obtain rfl : mW = 12 := by have := HW.out.hm; have := HW.out.len; omega
                have HF0 : Hid (Fin w A NN oA cA o6 c6 o8 c8 oL cL LL oN cN NL oW cW WL 0 wr) := fin_of S8.out.1 S8.out.2.1 S8.out.2.2.1 S8.out.2.2.2.1 S8.out.2.2.2.2.1 S8.out.2.2.2.2.2 HM2.out HTL.out HW.out
                have HFit : Hid ((∀ x ∈ A, x.size ≤ 140737488355328) ∧ (∀ x ∈ A, x.size ≤ maxLen) ∧ Inc lts A) := ⟨S8.out.1.fit, S8.out.1.fitM, S8.out.1.incA⟩
                have HNNv : Hid ((if valP (prs A tV) then nrm (prs A tV) else []) = NN) := HLV.out.2.2.1
                obtain ⟨nn, hnn⟩ : ∃ nn, NN.length = nn := ⟨_, rfl⟩
                have HNN : Hid (NN.length = nn ∧ NN.length ≤ 300) := ⟨hnn, by rw [← HNNv.out]; split; (rw [nrm_prs_length]; exact HLA.out); simp⟩
                obtain ⟨b6, off6, e6⟩ := HF0.out.full.adr (by rw [fulL_length]; omega)
                obtain ⟨b8, off8, e8⟩ := HF0.out.pairs.adr (by rw [prX_length _ _ (Nat.zero_le _)]; omega)
                obtain ⟨bA, offA, eA⟩ := HF0.out.a.adr (by have := HP1.out; omega)
                obtain ⟨bN, offN, eN⟩ := HF0.out.norms.adr (by rw [HF0.out.lenN]; omega)
                obtain ⟨bL, offL, eL⟩ := HF0.out.lots.own.adr (by rw [HF0.out.lenL]; omega)
                obtain ⟨bW, offW, eW⟩ := HF0.out.was.adr (by rw [HF0.out.lenW]; omega)
                subst e6 e8 eA eN eL eW
                obtain ⟨q0, hq0⟩ : ∃ q0, (NL.getD 0 sp0).o = q0 := ⟨_, rfl⟩
                obtain ⟨d0, hd0⟩ : ∃ d0, (NL.getD 0 sp0).c = d0 := ⟨_, rfl⟩
                obtain ⟨q1, hq1⟩ : ∃ q1, (NL.getD 1 sp0).o = q1 := ⟨_, rfl⟩
                obtain ⟨d1, hd1⟩ : ∃ d1, (NL.getD 1 sp0).c = d1 := ⟨_, rfl⟩
                have HN0 : Hid (∀ {j : Nat} {W : World}, Fin w A NN (some ⟨bA, offA, none⟩) cA (some ⟨b6, off6, none⟩) c6 (some ⟨b8, off8, none⟩) c8 (some ⟨bL, offL, none⟩) cL LL (some ⟨bN, offN, none⟩) cN NL (some ⟨bW, offW, none⟩) cW WL j W → W.cell? ⟨bN, offN, none⟩ = some (.slice q0 nn d0) ∧ W.cell? ⟨bN, offN + 1, none⟩ = some (.slice q1 nn d1) ∧ Own PE W q0 d0 NN ∧ Own PE W q1 d1 NN) := fun {j W} h => by
                  have h0 := h.norms.sl.atYS (j := 0) (by rw [h.lenN]; omega)
                  have h1 := h.norms.sl.atYS (j := 1) (by rw [h.lenN]; omega)
                  have g0 := h.eachN 0 (by rw [h.lenN]; omega)
                  have g1 := h.eachN 1 (by rw [h.lenN]; omega)
                  rw [g0.2, hq0, hd0, hnn] at h0
                  rw [g1.2, hq1, hd1, hnn] at h1
                  rw [hq0, hd0] at g0
                  rw [hq1, hd1] at g1
                  exact ⟨h0, h1, g0.1, g1.1⟩
                clear hq0 hd0 hq1 hd1 hnn
                obtain ⟨n1, n2, n3, n4⟩ := HN0.out HF0.out
                have HC : Hid ((∀ q, Calls Try.prog 14 #[.slice (some ⟨b6, off6, none⟩) m c6, .slice (some ⟨bA, offA, none⟩) m cA] (wr.drewN q) fun e w' => e = .returned (.bool true) ∧ ∃ k, w' = (wr.drewN q).drewN k) ∧ (∀ q, Calls Try.prog 21 #[.slice q0 nn d0, .slice q1 nn d1] (wr.drewN q) fun e w' => e = .returned (.bool true) ∧ ∃ k, w' = (wr.drewN q).drewN k)) := by
                  refine ⟨fun q => ?_, fun q => ?_⟩
                  · have h := HF0.out.keepsN ((Keeps.refl _ _).drewN q)
                    have hf := h.full
                    rw [fulL_zero] at hf
                    exact sameQ_yes _ _ _ _ _ _ _ A HP1.out.1 HP1.out.1 (by have := HLA.out; show _ ≤ _; omega) (hf.sl.pre okT) h.a.sl
                  · exact samePQ_yes _ _ _ _ _ _ _ NN HNN.out.1.symm HNN.out.1.symm (by have := HNN.out.2; show _ ≤ _; omega) (n3.sl.keepsN ((Keeps.refl _ _).drewN q)) (n4.sl.keepsN ((Keeps.refl _ _).drewN q))
                obtain ⟨xl, hxl⟩ : ∃ xl, xl = A.getD (A.length - 1) e0 := ⟨_, rfl⟩
                have r1 : wr.cell? ⟨b6, off6 + m, none⟩ = some (.string m1) := by
                  have := HF0.out.full.sl.atS (j := m) (by rw [fulL_length]; have := HP1.out; omega)
                  rw [HP1.out.1, (full_marks A).1] at this
                  rw [HP1.out.1]; exact this
                have r2 : wr.cell? ⟨b6, off6 + (m + 1), none⟩ = some (.string m2) := by
                  have := HF0.out.full.sl.atS (j := m + 1) (by rw [fulL_length]; have := HP1.out; omega)
                  rw [HP1.out.1, (full_marks A).2] at this
                  rw [HP1.out.1]; exact this
                have r3 : wr.cell? ⟨b8, off8 + m * 2, none⟩ = some (.string m3) := by
                  have := (HF0.out.pairs.sl.atPS (j := m) (by rw [prX_length _ _ (Nat.zero_le _)]; have := HP1.out; omega)).1
                  rw [HP1.out.1, (prX_marks A (by have := HP1.out; omega)).1] at this
                  rw [HP1.out.1]; exact this
                have r4 : wr.cell? ⟨b8, off8, none⟩ = some (.string xl) := by
                  have := (HF0.out.pairs.sl.atPS (j := 0) (by rw [prX_length _ _ (Nat.zero_le _)]; have := HP1.out; omega)).1
                  rw [(prX_marks A (by have := HP1.out; omega)).2, ← hxl] at this
                  exact this
                have r5 : wr.cell? ⟨bA, offA + (m - 1), none⟩ = some (.string xl) := by
                  have := HF0.out.a.sl.atS (j := m - 1) (by have := HP1.out; omega)
                  rw [HP1.out.1, ← hxl] at this
                  rw [HP1.out.1]; exact this
                have hmI : (1 : Int) ≤ m := by have := HP1.out; omega
                clear n3 n4 hxl
                go_wp2_with fail
                go_quiet (first | (go_at_call 14; exact Calls.quiet_of (HC.out.1 _)) | (go_at_call 21; exact Calls.quiet_of (HC.out.2 _)))
                obtain ⟨W4, hW4⟩ : ∃ W4, wr.drewN nq = W4 := ⟨_, rfl⟩
                have HF4 : Hid (Fin w A NN (some ⟨bA, offA, none⟩) cA (some ⟨b6, off6, none⟩) c6 (some ⟨b8, off8, none⟩) c8 (some ⟨bL, offL, none⟩) cL LL (some ⟨bN, offN, none⟩) cN NL (some ⟨bW, offW, none⟩) cW WL 0 W4) := by
                  rw [← hW4]; exact HF0.out.keepsN ((Keeps.refl _ _).drewN nq)
                rw [hW4]
                clear hW4 HF0 HC r1 r2 r3 r4 r5 n1 n2 HW HM2 S8 HIN HFP HLV HTL
                go_wp2_with fail
                go_loopw [31] (fun s31 wr => ∃ i : Nat, i ≤ m ∧ s31 = .int .i64 i ∧ Hid (Fin w A NN (some ⟨bA, offA, none⟩) cA (some ⟨b6, off6, none⟩) c6 (some ⟨b8, off8, none⟩) c8 (some ⟨bL, offL, none⟩) cL LL (some ⟨bN, offN, none⟩) cN NL (some ⟨bW, offW, none⟩) cW WL i wr)) (fun s31 _ => m - (intOf s31).toNat)
                case atStart => exact ⟨0, Nat.zero_le _, rfl, HF4⟩
                case round =>
                  obtain ⟨i, hi, rfl, HFi⟩ := hrel
                  by_cases h2 : i < m
                  · obtain ⟨x, hx⟩ : ∃ x, x = A.getD i e0 := ⟨_, rfl⟩
                    have hiA : i < A.length := by have := HP1.out; omega
                    have dA : wr.cell? ⟨bA, offA + i, none⟩ = some (.string x) := by rw [hx]; exact HFi.out.a.sl.atS hiA
                    obtain ⟨⟨c1, f1⟩, ⟨c2, f2⟩, hF2⟩ := HFi.out.over hiA (wLet x) (by rw [hx])
                    have HF2 : Hid (Fin w A NN (some ⟨bA, offA, none⟩) cA (some ⟨b6, off6, none⟩) c6 (some ⟨b8, off8, none⟩) c8 (some ⟨bL, offL, none⟩) cL LL (some ⟨bN, offN, none⟩) cN NL (some ⟨bW, offW, none⟩) cW WL (i + 1) ((wr.setCell ⟨b6, off6 + i, none⟩ (.string (wLet x))).setCell ⟨b8, off8 + i * 2 + 1, none⟩ (.string tX))) := hF2
                    have hszx : x.size ≤ 140737488355328 := by rw [hx]; exact HFit.out.1 _ (getD_mem_lt e0 hiA)
                    have hadd : ∀ W, (Op.stringOp .add { data := #[119] } x).run Try.prog W = .ok (.string (wLet x)) W := fun W => run_string_add_sum W { data := #[119] } x (by show 1 + x.size ≤ _; omega)
                    have hI : (i : Int) < m := by omega
                    clear hx hiA hF2 hszx
                    go_wp2_with fail
                    go_roundw
                    case rel => exact ⟨i + 1, by omega, by go_num, HF2⟩
                    case measure => simp [intOf] <;> omega
                  · have him : m = i := by omega
                    subst him
                    rename World => wf
                    have hfu : Sl TE wf (some ⟨b6, off6, none⟩) c6 (A.map wLet) ∧ Sl PE wf (some ⟨b8, off8, none⟩) c8 (prs A tX) := by
                      have h1 := HFi.out.full
                      have h2 := HFi.out.pairs
                      rw [HP1.out.1, fulL_all] at h1
                      rw [HP1.out.1, prX_all] at h2
                      exact ⟨h1.sl.pre okT, h2.sl.pre okP⟩
                    have HS5 : Hid (Sl TE wf (some ⟨b6, off6, none⟩) c6 (A.map wLet) ∧ Sl PE wf (some ⟨b8, off8, none⟩) c8 (prs A tX)) := hfu
                    have HLX : Hid (m = (A.map wLet).length ∧ (A.map wLet).length ≤ 300 ∧ m = (prs A tX).length ∧ (prs A tX).length ≤ 300) := ⟨by rw [List.length_map]; exact HP1.out.1, by rw [List.length_map]; exact HLA.out, by rw [prs_length]; exact HP1.out.1, by rw [prs_length]; exact HLA.out⟩
                    clear hfu HF4 h2 hi
                    go_wp2_with fail
                    refine (union_inc wf (some ⟨b6, off6, none⟩) m c6 none 0 0 (A.map wLet) [] HLX.out.1 rfl (by have := HLX.out.2.1; omega) (by simp) HS5.out.1 ⟨row_nil _ _, by simp, fun _ => rfl⟩ (wLet_inc HFit.out.2.2) List.Pairwise.nil).mono ?_
                    rintro e v1 ⟨v, rfl, px, nx, dx, rfl, hnx, hpx, hwx, jx⟩
                    rw [mg_nilr] at hpx hnx
                    have hmx : m = nx := by rw [hnx.out]; exact HLX.out.1
                    subst hmx
                    have X1 : Hid (Own TE v1 px dx (A.map wLet) ∧ New wf px ∧ Keeps no wf v1) := ⟨hpx, hwx, jx⟩
                    have hv2 := norm_any v1 (some ⟨b8, off8, none⟩) m c8 (prs A tX) HLX.out.2.2.1 (by have := HLX.out.2.2.2; omega) (fitsP_prs HFit.out.2.1 tX (by decide)) (HS5.out.2.keepsN jx)
                    obtain ⟨YY, hYY⟩ : ∃ YY, (if valP (prs A tX) then nrm (prs A tX) else []) = YY := ⟨_, rfl⟩
                    obtain ⟨E3, hE3⟩ : ∃ E3 : Int, (if valP (prs A tX) then (0 : Int) else 40) = E3 := ⟨_, rfl⟩
                    rw [hYY, hE3] at hv2
                    have HY : Hid ((if valP (prs A tX) then nrm (prs A tX) else []) = YY ∧ (if valP (prs A tX) then (0 : Int) else 40) = E3) := ⟨hYY, hE3⟩
                    clear hnx hpx hwx jx hYY hE3
                    go_wp2_with fail
                    refine hv2.mono ?_
                    rintro e v2 ⟨v, rfl, py, ny, dy, rfl, hny, hpy, hwy, jy⟩
                    have X2 : Hid (Own PE v2 py dy YY ∧ Keeps no wf v2 ∧ ny = YY.length) := ⟨hpy, X1.out.2.2.trans jy, hny.out⟩
                    have X2b : Hid (Keeps no v1 v2) := jy
                    clear hny hpy hwy jy hv2
                    go_wp2_with fail
                    refine (same_yes v2 px m dx (some ⟨b6, off6, none⟩) m c6 (A.map wLet) HLX.out.1 HLX.out.1 (by have := HLX.out.2.1; show _ ≤ _; omega) (X1.out.1.sl.keepsN X2b.out) (HS5.out.1.keepsN X2.out.2.1)).mono ?_
                    rintro e v3 ⟨rfl, k3⟩
                    have HF6 : Hid (Fin w A NN (some ⟨bA, offA, none⟩) cA (some ⟨b6, off6, none⟩) c6 (some ⟨b8, off8, none⟩) c8 (some ⟨bL, offL, none⟩) cL LL (some ⟨bN, offN, none⟩) cN NL (some ⟨bW, offW, none⟩) cW WL m v3 ∧ Keeps no v2 v3 ∧ Keeps no wf v3) := ⟨HFi.out.keepsN (X2.out.2.1.trans k3), k3, X2.out.2.1.trans k3⟩
                    obtain ⟨n1, n2, n3, n4⟩ := HN0.out HF6.out.1
                    have Y0 : Hid (Own PE v3 py dy YY ∧ Own PE v3 q0 d0 NN) := ⟨X2.out.1.keepsN k3, n3⟩
                    clear k3 n2 n3 n4 HN0
                    by_cases hP : valP (prs A tX) = true
                    case' pos =>
                      have hY := HY.out
                      rw [if_pos hP, if_pos hP] at hY
                      have hNv := HNNv.out
                      rw [if_pos (by rw [← valP_x]; exact hP)] at hNv
                      have hE := hY.2
                      subst hE
                      have hyl : YY.length = A.length := by rw [← hY.1, nrm_prs_length]
                      have hnl : NN.length = A.length := by rw [← hNv, nrm_prs_length]
                      have hm1 : m = ny := by rw [X2.out.2.2, hyl]; exact HP1.out.1
                      have hm2 : m = nn := by rw [← HNN.out.1, hnl]; exact HP1.out.1
                      subst hm1 hm2
                      have hpos : 0 < A.length := by have := HP1.out; omega
                      obtain ⟨bY, offY, eY⟩ := Y0.out.1.adr (by omega)
                      subst eY
                      obtain ⟨bQ, offQ, eQ⟩ := Y0.out.2.adr (by omega)
                      subst eQ
                      have cY : v3.cell? ⟨bY, offY + 1, none⟩ = some (.string tX) := by
                        have := (Y0.out.1.sl.atPS (j := 0) (by omega)).2
                        rw [← hY.1, nrm_val A tX hpos] at this
                        rw [Nat.zero_mul] at this
                        exact this
                      have cQ : v3.cell? ⟨bQ, offQ + 1, none⟩ = some (.string tV) := by
                        have := (Y0.out.2.sl.atPS (j := 0) (by omega)).2
                        rw [← hNv, nrm_val A tV hpos] at this
                        rw [Nat.zero_mul] at this
                        exact this
                      have hm0 : (0 : Int) < m := by omega
                      clear hY hNv hyl hnl hpos hP HY HNNv
                      go_wp2_with fail
                    case' neg =>
                      have hY := HY.out
                      rw [if_neg hP, if_neg hP] at hY
                      have hNv := HNNv.out
                      rw [if_neg (by rw [← valP_x]; exact hP)] at hNv
                      have hE := hY.2
                      subst hE
                      obtain rfl : ny = 0 := by rw [X2.out.2.2, ← hY.1]; rfl
                      obtain rfl : nn = 0 := by rw [← HNN.out.1, ← hNv]; rfl
                      clear hY hNv hP HY HNNv
                      go_wp2_with fail
                    all_goals
                      (go_loopw [36] (fun s36 wr => ∃ i : Nat, i ≤ 12 ∧ s36 = .int .i64 i ∧ Hid (Keeps no v3 wr)) (fun s36 _ => 12 - (intOf s36).toNat)
                       case atStart => exact ⟨0, by omega, rfl, Keeps.refl _ _⟩
                       case round =>
                         obtain ⟨i, hi5, rfl, HK⟩ := hrel
                         by_cases h5 : i < 12
                         · have hF := HF6.out.1.keepsN HK.out
                           have dL := hF.lots.own.sl.atXS (j := i) (by rw [hF.lenL]; exact h5)
                           have dW := hF.was.sl.atXS (j := i) (by rw [hF.lenW]; exact h5)
                           have oL1 := hF.lots.each i (by rw [hF.lenL]; exact h5)
                           have oW1 := hF.eachW i (by rw [hF.lenW]; exact h5)
                           have sz := hF.sz i (by rw [hF.lenL]; exact h5)
                           have oW2 := oW1.1
                           rw [oW1.2] at dW oW2
                           obtain ⟨xs, hxs⟩ : ∃ xs, (LL.getD i s0).xs = xs := ⟨_, rfl⟩
                           obtain ⟨o1, ho1⟩ : ∃ o1, (LL.getD i s0).o = o1 := ⟨_, rfl⟩
                           obtain ⟨c1, hc1⟩ : ∃ c1, (LL.getD i s0).c = c1 := ⟨_, rfl⟩
                           obtain ⟨o2, ho2⟩ : ∃ o2, (WL.getD i s0).o = o2 := ⟨_, rfl⟩
                           obtain ⟨c2, hc2⟩ : ∃ c2, (WL.getD i s0).c = c2 := ⟨_, rfl⟩
                           obtain ⟨n, hn⟩ : ∃ n, xs.length = n := ⟨_, rfl⟩
                           rw [hxs, ho1, hc1] at dL oL1
                           rw [hxs, ho2, hc2] at dW oW2
                           rw [hxs] at sz
                           have HQ : Hid (∀ q, Calls Try.prog 14 #[.slice o1 n c1, .slice o2 n c2] (wr.drewN q) fun e w' => e = .returned (.bool true) ∧ ∃ k, w' = (wr.drewN q).drewN k) := fun q => sameQ_yes _ _ _ _ _ _ _ xs hn.symm hn.symm (by show _ ≤ _; omega) (oL1.sl.keepsN ((Keeps.refl _ _).drewN q)) (oW2.sl.keepsN ((Keeps.refl _ _).drewN q))
                           rw [hn] at dL dW
                           have hI : (i : Int) < 12 := by omega
                           clear hF oL1 oW1 oW2 sz hxs ho1 hc1 ho2 hc2 hn
                           go_wp2_with fail
                           go_quiet ((go_at_call 14; exact Calls.quiet_of (HQ.out _)))
                           go_wp2_with fail
                           go_roundw
                           case rel => exact ⟨i + 1, by omega, by go_num, HK.out.drewN _⟩
                           case measure => simp [intOf] <;> omega
                         · have h12 : i = 12 := by omega
                           have hz : ((i : Nat) : Int) = 12 := by omega
                           rw [hz]
                           subst h12
                           have hx9 : Row XE (wr.alloc (.cells #[.slice px m dx] 22)) (some ⟨wr.heap.size, 0, none⟩) [⟨px, dx, A.map wLet⟩] := by
                             have h9 := (litX wr [⟨px, dx, A.map wLet⟩]).row
                             have h10 := HLX.out.1
                             rw [h10]
                             exact h9
                           go_wp2_with (at_builtin; refine wpList_app okX rfl _ _ rfl _ _ _ LL rfl HF6.out.1.lenL.symm (HF6.out.1.lots.own.keepsN (HK.out.alloc _)) _ _ _ [⟨px, dx, A.map wLet⟩] rfl rfl (fun h => by cases h) hx9 (by rw [HF6.out.1.lenL]; simp only [XE, List.length_cons, List.length_nil]; omega) (by rw [HF6.out.1.lenL]; simp only [List.length_cons, List.length_nil]; omega) ?_; intro oL' cL' x1 hoL hapL)
                           have hE := HFi.out.last (wq := wr) (HF6.out.2.2.trans HK.out) ((X1.out.1.keepsN X2b.out).keepsN (HF6.out.2.1.trans HK.out)) X1.out.2.1 (by have := HLX.out.2.1; omega) hoL hapL
                           refine (apart_any w.heap.size x1 oL' _ cL' (LL ++ [⟨px, dx, A.map wLet⟩]) (by rw [List.length_append, HF6.out.1.lenL]; rfl) (by omega) hE.2.1 hE.1 hE.2.2.2.2.size hE.2.2.1 hE.2.2.2.1).mono ?_
                           rintro e w9 ⟨rfl, k9⟩
                           have HE : Hid (Keeps no w w9) := hE.2.2.2.2.then k9 (fun i hi => .inr hi)
                           clear k9 hE hapL hoL
                           go_wp2_with fail
                           go_ret
                           exact ⟨rfl, HE.out⟩)
end Go.Proofs.Ytpfbbfbghldmjaa
