/- FixWhole. -/
import Derived.Test.YtodblodbeobgeaaP3
namespace Go.Proofs.Ytodblodbeobgeaa
open Go.RowKit Go.Sort Orl
set_option linter.unusedVariables false
set_option linter.unusedSimpArgs false

set_option maxRecDepth 10000 in
set_option maxHeartbeats 4000000 in
theorem fixWhole_any (w : World) (om : Option Addr) (nm cm : Nat) (ms : List Int) (read turn : Int) (op : Option Addr) (np cp : Nat) (ps : List Int) (oq : Option Addr) (nq cq : Nat) (qs : List Int) (hnm : nm = ms.length) (hnp : np = ps.length) (hnq : nq = qs.length) (hml : ms.length ≤ 17592186044000) (hpl : ps.length ≤ 17592186044000) (hql : qs.length ≤ 17592186044000) (hI : ∀ z ∈ ms, I64 z) (hP : ∀ z ∈ ps, I64 z) (hQ : ∀ z ∈ qs, I64 z) (hr : I64 read) (ht : I64 turn) (hs : Sl ZE w om cm ms) (hp : Sl ZE w op cp ps) (hqs : Sl ZE w oq cq qs) :
    Calls Try.prog 5 #[.slice om nm cm, .int .i64 read, .int .i64 turn, .slice op np cp, .slice oq nq cq] w fun e w' => e = .returned (.bool true) ∧ Keeps no w w' := by
  obtain ⟨M, hM⟩ : ∃ M : Nat, M = min nm 60 := ⟨_, rfl⟩
  have hmin : min (nm : Int) 60 = (M : Int) := by omega
  obtain ⟨hcut, hs2⟩ := cutZ_h w om cm ms nm M (M : Int) rfl hnm (by omega) hs
  have hnm' : (nm : Int) ≤ 17592186044000 := by omega
  have hnq' : (nq : Int) ≤ 17592186044000 := by omega
  have hM60 : (M : Int) ≤ 60 := by omega
  obtain ⟨mt, hmt⟩ : ∃ mt, mt = ms.take M := ⟨_, rfl⟩
  have hml2 : M = mt.length := by rw [hmt, List.length_take]; omega
  rw [← hmt] at hs2
  have hI2 : ∀ z ∈ mt, I64 z := fun z hz => hI z (List.mem_of_mem_take (by rw [← hmt]; exact hz))
  have HB0 : Hid (Calls Try.prog 9 #[.slice om M cm, .int .i64 read, .int .i64 turn, .slice op np cp] w fun e w' => ∃ u, e = .returned u ∧ GiveVs w (broughtV mt read turn ps) u w') :=
    brought_any w om M cm mt read turn op np cp ps hml2 hnp (by omega) hpl hI2 hP hr ht hs2 hp
  have HRD : Hid (Rd mt (broughtV mt read turn ps)) := rd_of mt (by omega) _ _ _
  have HMS : Hid (M = mt.length ∧ (∀ z ∈ mt, I64 z) ∧ Sl ZE w om cm mt ∧ mt.length ≤ 60) := ⟨hml2, hI2, hs2, by omega⟩
  have HQS : Hid (nq = qs.length ∧ (∀ z ∈ qs, I64 z) ∧ Sl ZE w oq cq qs) := ⟨hnq, hQ, hqs⟩
  clear hnm hnp hml hpl hI hP hs hs2 hp hM hmt hml2 hI2 hnq hQ hqs hql
  generalize broughtV mt read turn ps = vs at HB0 HRD
  go_enter Try.func5, Try.ntmps5
  go_wp2_with fail
  refine Calls.mono HB0.out ?_
  rintro e w1 ⟨_, rfl, o, n, c, rs, rfl, hn, hv⟩
  have HV : Hid (n = vs.length ∧ NewVs w o c rs vs w1) := ⟨hn, hv⟩
  have hn8 : (n : Int) ≤ 8 := by have := HRD.out.len; omega
  clear HB0 hn hv
  have HN : Hid (Calls Try.prog 13 #[.slice o n c] w1 fun e w' => ∃ u, e = .returned u ∧ NeedTo w1 vs u w') := pNeeds_any w1 o n c rs vs HV.out.1 HRD.out.fit HV.out.2.vers
  go_wp2_with fail
  refine Calls.mono HN.out ?_
  rintro e w2 ⟨u, rfl, hu⟩
  clear HN
  rcases hu with ⟨hb, _⟩ | ⟨_, ow, nw, cw, rfl, hnw, how, hww, hk2⟩
  · rw [(formedB_iff vs).2 HRD.out.formed] at hb; cases hb
  have HV2 : Hid (NewVs w o c rs vs w2 ∧ nw = (needsV vs).length ∧ Own WE w2 ow cw (needsV vs)) := ⟨HV.out.2.keepsN hk2, hnw, how⟩
  have hnw8 : (nw : Int) ≤ 8 := by have := needs_len vs; have := HRD.out.len; omega
  clear hnw how hww hk2
  go_wp2_with fail
  refine (known_any w2).mono ?_
  rintro e w3 ⟨rfl, hk3⟩
  have HV3 : Hid (NewVs w o c rs vs w3 ∧ nw = (needsV vs).length ∧ Own WE w3 ow cw (needsV vs)) := ⟨HV2.out.1.keepsN hk3, HV2.out.2.1, HV2.out.2.2.keepsN hk3⟩
  clear HV2 hk3
  have HFO : Hid (Calls Try.prog 11 #[.slice o n c] w3 fun e w' => e = .returned (.bool true) ∧ Keeps no w3 w') := by
    have h := pFormed_any w3 o n c rs vs HV.out.1 HRD.out.fit HV3.out.1.vers
    rw [(formedB_iff vs).2 HRD.out.formed] at h
    exact h
  go_wp2_with fail
  refine Calls.mono HFO.out ?_
  rintro e w4 ⟨rfl, hk4⟩
  have HV4 : Hid (NewVs w o c rs vs w4 ∧ nw = (needsV vs).length ∧ Own WE w4 ow cw (needsV vs)) := ⟨HV3.out.1.keepsN hk4, HV3.out.2.1, HV3.out.2.2.keepsN hk4⟩
  clear HV3 hk4 HFO
  obtain ⟨Z, hZ⟩ : ∃ Z, ((nw : Int) == 0) = Z := ⟨_, rfl⟩
  have HCU : Hid (Calls Try.prog 15 #[.slice o n c] w4 fun e w' => e = .returned (.bool Z) ∧ Keeps no w4 w') := by
    have h := pCut_any w4 o n c rs vs HV.out.1 HRD.out.fit HV4.out.1.vers
    have hz : (wholeB vs && formedB vs) = Z := by
      rw [(formedB_iff vs).2 HRD.out.formed, Bool.and_true, ← hZ, Bool.eq_iff_iff, wholeB_iff, ← needs_nil, ← List.length_eq_zero_iff, ← HV4.out.2.1]
      simp
    rw [hz] at h
    exact h
  go_wp2_with fail
  refine Calls.mono HCU.out ?_
  rintro e w5 ⟨rfl, hk5⟩
  have HV5 : Hid (NewVs w o c rs vs w5 ∧ nw = (needsV vs).length ∧ Own WE w5 ow cw (needsV vs)) := ⟨HV4.out.1.keepsN hk5, HV4.out.2.1, HV4.out.2.2.keepsN hk5⟩
  clear HV4 hk5 HCU
  go_upto_block 0 with fail
  clear hZ
  go_cut [14, 15, 16] from 65 to 100 (fun s14 _ _ wc => Hid (GotAll w5 mt vs nw 20 s14 wc))
  case first =>
    as_aux_lemma =>
      go_wp2_with fail
      go_loopw [14, 15] (fun s14 s15 wr => ∃ i : Nat, i ≤ 20 ∧ i ≤ nq ∧ s15 = .int .i64 i ∧ Hid (GotAll w5 mt vs nw i s14 wr)) (fun _ s15 _ => nq - (intOf s15).toNat)
      case atStart => exact ⟨0, by omega, by omega, rfl, none, 0, 0, [], [], rfl, rfl, by simp, NewVs.nil _, by simp, fun i h1 h2 => by have := HV5.out.2.1; omega⟩
      case round =>
        rename World => wr
        obtain ⟨i, hi20, hiq, rfl, HGT⟩ := hrel
        by_cases hlt : i < nq
        · have hlt' : (i : Int) < nq := by omega
          by_cases hM0 : 0 < M
          · have hM0' : (0 : Int) < M := by omega
            by_cases hi2 : i < 20
            · have hi2' : (i : Int) < 20 := by omega
              obtain ⟨og, ng, cg, rg, gs, hu, hng, hgl, hgv, hgn, hgw⟩ := HGT.out
              subst hu
              have HG : Hid (ng = gs.length ∧ gs.length ≤ i ∧ NewVs w5 og cg rg gs wr ∧ (∀ g ∈ gs, FitV g ∧ Made (KM mt) VM mt.length g) ∧ (∀ i, nw ≤ i → i < (needsV vs).length → ∃ g ∈ gs, g.key = ((needsV vs).getD i w0').1 ∧ g.id = ((needsV vs).getD i w0').2)) := ⟨hng, hgl, hgv, hgn, hgw⟩
              clear HGT hng hgl hgv hgn hgw
              have HWR : Hid (Keeps no w wr) := HV5.out.1.kp.trans HG.out.2.2.1.kp
              obtain ⟨bq, offq, hoq, dq⟩ := (HQS.out.2.2.keepsN HWR.out).atZ (j := i) (by have := HQS.out.1; omega)
              have HZ : Hid (I64 (qs.getD i 0)) := HQS.out.2.1 _ (getD_mem_lt 0 (by have := HQS.out.1; omega))
              generalize qs.getD i 0 = z at dq HZ
              subst hoq
              obtain ⟨N, hN⟩ : ∃ N, N = rst z (M - 1) := ⟨_, rfl⟩
              have hNM : N < M := by have := rst_le z (M - 1); omega
              have HRS : Hid (∀ W, Calls Try.prog 12 #[.int .i64 z, .int .i64 ((M : Int) - 1)] W fun e w' => e = .returned (.int .i64 (N : Nat)) ∧ w' = W) := by
                intro W
                have h := rest_any z (M - 1) W HZ.out (by omega)
                rw [← hN] at h
                rw [show ((M : Int) - 1) = ((M - 1 : Nat) : Int) by omega]
                exact h
              have hNM' : (N : Int) < M := by omega
              clear hN
              obtain ⟨bm, offm, hom, dm⟩ := (HMS.out.2.2.1.keepsN HWR.out).atZ (j := N) (by have := HMS.out.1; omega)
              have HZM : Hid (I64 (mt.getD N 0) ∧ KM mt N = setM (mt.getD N 0)) := ⟨HMS.out.2.1 _ (getD_mem_lt 0 (by have := HMS.out.1; omega)), rfl⟩
              generalize mt.getD N 0 = zm at dm HZM
              subst hom
              go_wp2_with fail
              refine (HRS.out _).mono ?_
              rintro e wq ⟨rfl, hwq⟩
              subst wq
              clear HRS
              have hks := fun W => keys_any zm W HZM.out.1
              go_wp2_with fail
              refine (hks _).mono ?_
              rintro e w7 ⟨_, rfl, o7, n7, c7, rfl, hn7, ho7, hnw7, hk7⟩
              obtain ⟨b7, off7, ho7e, d7⟩ := ho7.sl.at (j := 0) (by have := setM_len zm; omega)
              have hk0 : (setM zm).getD 0 e0 ∈ setM zm := getD_mem_lt e0 (by have := setM_len zm; omega)
              have HK0 : Hid ((setM zm).getD 0 e0 ∈ KM mt N ∧ ((setM zm).getD 0 e0).size = 1) := ⟨by rw [HZM.out.2]; exact hk0, setM_size zm _ hk0⟩
              generalize (setM zm).getD 0 e0 = k0 at d7 HK0
              simp only [Nat.add_zero] at d7
              have hn7' : (0 : Int) < n7 := by have := hn7.out; have := setM_len zm; omega
              have H7 : Hid (Keeps no w w7 ∧ NewVs w5 og cg rg gs w7) := ⟨HWR.out.trans hk7, HG.out.2.2.1.keepsN hk7⟩
              have HMD : Hid (Calls Try.prog 19 #[.slice (some ⟨bm, offm, none⟩) M cm, .int .i64 ((N : Nat) : Int), .string k0] w7 fun e w' => ∃ u, e = .returned u ∧ GiveV w7 (madeV mt N k0) u w') := made_any w7 _ M cm mt N k0 HMS.out.1 (by have := HMS.out.1; omega) HMS.out.2.2.2 (by have := HK0.out.2; omega) HMS.out.2.1 (HMS.out.2.2.1.keepsN H7.out.1)
              subst ho7e
              clear hks hn7 ho7 hnw7 hk7 hk0 dm dq
              go_wp2_with fail
              refine Calls.mono HMD.out ?_
              rintro e w8 ⟨_, rfl, o5, n5, c5, rfl, hn5, ho5, hnw5, hk5⟩
              have H8 : Hid (NewVs w5 og cg rg gs w8 ∧ VerN w8 ⟨k0, 65536 * (N + 1), VM N k0, o5, n5, c5⟩ (madeV mt N k0) ∧ New w5 o5) := ⟨H7.out.2.keepsN hk5, ⟨rfl, rfl, rfl, hn5.out, ho5⟩, hnw5.of_le H7.out.2.kp.size⟩
              have HRL : Hid (ng = rg.length ∧ rg.length ≤ 24) := by
                have h1 := HG.out.2.2.1.len
                have h2 := HG.out.1
                have h3 := HG.out.2.1
                exact ⟨by omega, by omega⟩
              clear HMD hn5 ho5 hnw5 hk5
              go_wp2_with (at_builtin; refine wpList_app okV rfl _ _ rfl _ _ _ rg rfl HRL.out.1 (H8.out.1.own.keepsN ((Keeps.refl _ _).alloc _)) _ _ _ [⟨k0, 65536 * (N + 1), VM N k0, o5, n5, c5⟩] rfl rfl (fun h => by cases h) (own_oneV w8 ⟨k0, 65536 * (N + 1), VM N k0, o5, n5, c5⟩).row (by have := HRL.out.2; simp [VE]; omega) (by have := HRL.out.2; simp; omega) ?_; intro os6 cs6 ws6 hos6 haps6)
              go_roundw
              case rel =>
                have h1 := H8.out.1.keepsN ((Keeps.refl no w8).alloc (.cells #[.string k0, .int .u64 ((65536 * (N + 1) : Nat) : Int), .string (VM N k0), .slice o5 n5 c5] 32))
                refine ⟨i + 1, by omega, by omega, by go_num, os6, _, cs6, _, gs ++ [madeV mt N k0], rfl, ?_, ?_, h1.push (H8.out.2.1.keepsN ((Keeps.refl _ _).alloc _)) H8.out.2.2 hos6 haps6, ?_, ?_⟩
                · rw [List.length_append, ← HG.out.1]; rfl
                · have := HG.out.2.1; rw [List.length_append]; simp; omega
                · intro g hg
                  rcases List.mem_append.1 hg with hg | hg
                  · exact HG.out.2.2.2.1 g hg
                  · rcases List.mem_cons.1 hg with rfl | hg
                    · exact ⟨made_fit (by have := HMS.out.2.2.2; have := HMS.out.1; omega) (by have := HK0.out.2; omega), N, by have := HMS.out.1; omega, HK0.out.1, rfl⟩
                    · cases hg
                · intro i' h1 h2
                  have := HV5.out.2.1; omega
              case measure => simp [intOf]; omega
            · have hi2' : ¬ (i : Int) < 20 := by omega
              have hi20' : i = 20 := by omega
              have HGX : Hid (GotAll w5 mt vs nw 20 u14 wr) := by have h := HGT.out; rw [hi20'] at h; exact h
              clear hi20'
              go_wp2_with fail
              go_meet
              case rel => exact HGX
          · have hM0' : ¬ (0 : Int) < M := by omega
            have HGX : Hid (GotAll w5 mt vs nw 20 u14 wr) := by
              obtain ⟨og, ng, cg, rg, gs, h1, h2, h3, h4⟩ := HGT.out
              exact ⟨og, ng, cg, rg, gs, h1, h2, by omega, h4⟩
            go_wp2_with fail
            go_meet
            case rel => exact HGX
        · have hlt' : ¬ (i : Int) < nq := by omega
          have HGX : Hid (GotAll w5 mt vs nw 20 u14 wr) := by
            obtain ⟨og, ng, cg, rg, gs, h1, h2, h3, h4⟩ := HGT.out
            exact ⟨og, ng, cg, rg, gs, h1, h2, by omega, h4⟩
          go_wp2_with fail
          go_meet
          case rel => exact HGX
  case rest =>
    rename World => w6
    go_wp2_with fail
    go_loopw [14, 17] (fun s14 s17 wr => ∃ j : Nat, j ≤ nw ∧ s17 = .int .i64 ((j : Int) - 1) ∧ Hid (GotAll w5 mt vs j (28 - j) s14 wr)) (fun _ s17 _ => ((intOf s17) + 1).toNat)
    case atStart =>
      refine ⟨nw, by omega, rfl, ?_⟩
      obtain ⟨og, ng, cg, rg, gs, h1, h2, h3, h4⟩ := hcut.out
      exact ⟨og, ng, cg, rg, gs, h1, h2, by omega, h4⟩
    case round =>
      rename World => wr
      obtain ⟨j, hj, rfl, HGT⟩ := hrel
      obtain ⟨og, ng, cg, rg, gs, hu, hng, hgl, hgv, hgn, hgw⟩ := HGT.out
      subst hu
      cases j with
      | succ k =>
        as_aux_lemma =>
          have e1 : ((k + 1 : Nat) : Int) - 1 = (k : Int) := by omega
          rw [e1]
          clear e1
          have HG : Hid (ng = gs.length ∧ gs.length ≤ 28 - (k + 1) ∧ NewVs w5 og cg rg gs wr ∧ (∀ g ∈ gs, FitV g ∧ Made (KM mt) VM mt.length g) ∧ (∀ i, k + 1 ≤ i → i < (needsV vs).length → ∃ g ∈ gs, g.key = ((needsV vs).getD i w0').1 ∧ g.id = ((needsV vs).getD i w0').2)) := ⟨hng, hgl, hgv, hgn, hgw⟩
          clear HGT hng hgl hgv hgn hgw
          have hkn : (k : Int) < nw := by omega
          have hil : k < (needsV vs).length := by have := HV5.out.2.1; omega
          obtain ⟨N, hN, hp2, hp1, hps⟩ := HRD.out.want hil
          have HWR : Hid (Keeps no w5 wr ∧ Keeps no w wr) := ⟨HG.out.2.2.1.kp, HV5.out.1.kp.trans HG.out.2.2.1.kp⟩
          obtain ⟨bw, offw, how, d0, d1⟩ := (HV5.out.2.2.keepsN HWR.out.1).sl.atW hil
          have HPG : Hid (∃ q, q = (needsV vs).getD k w0') := ⟨_, rfl⟩
          generalize hpe : (needsV vs).getD k w0' = p at d0 d1 hp1 hp2 hps
          have HPE : Hid ((needsV vs).getD k w0' = p) := hpe
          clear hpe HPG
          obtain ⟨px, pi⟩ := p
          simp only at d0 d1 hp1 hp2 hps
          subst how
          have HPI : Hid (pi = 65536 * (N + 1) ∧ px.size = 1 ∧ N < mt.length ∧ px ∈ KM mt N) := ⟨hp2, hps, hN, hp1⟩
          have hNM : (N : Int) < M := by have := HMS.out.1; omega
          have hq : (pi : Int) / 65536 = (N : Int) + 1 := by omega
          have hN60 : (N : Int) < 60 := by omega
          have hpi : (pi : Int) ≤ 3932160 := by omega
          have hN0 : ¬ (N : Int) < 0 := by omega
          have hN0' : decide ((N : Int) < 0) = false := by rw [decide_eq_false_iff_not]; exact hN0
          have hNM' : ¬ (M : Int) ≤ (N : Int) := by omega
          have hNM2 : decide ((M : Int) ≤ (N : Int)) = false := by rw [decide_eq_false_iff_not]; exact hNM'
          clear hil hN hp2 hp1 hps
          obtain ⟨bm, offm, hom, dm⟩ := (HMS.out.2.2.1.keepsN HWR.out.2).atZ (j := N) HPI.out.2.2.1
          have HZM : Hid (I64 (mt.getD N 0) ∧ KM mt N = setM (mt.getD N 0)) := ⟨HMS.out.2.1 _ (getD_mem_lt 0 HPI.out.2.2.1), rfl⟩
          generalize mt.getD N 0 = zm at dm HZM
          subst hom
          have HIN : Hid (inn (setM zm) px = true) := by show _ = _; rw [← HZM.out.2, inn_iff]; exact HPI.out.2.2.2
          have HKY : Hid (∀ W, Calls Try.prog 20 #[.int .i64 zm] W fun e w' => ∃ v, e = .returned v ∧ Gives TE W (setM zm) v w') := fun W => keys_any zm W HZM.out.1
          have HMD : Hid (∀ W, Keeps no wr W → Calls Try.prog 19 #[.slice (some ⟨bm, offm, none⟩) M cm, .int .i64 ((N : Nat) : Int), .string px] W fun e w' => ∃ u, e = .returned u ∧ GiveV W (madeV mt N px) u w') := fun W hW => made_any W _ M cm mt N px HMS.out.1 HPI.out.2.2.1 HMS.out.2.2.2 (by have := HPI.out.2.1; omega) HMS.out.2.1 (HMS.out.2.2.1.keepsN (HWR.out.2.trans hW))
          go_upto_region 16 with fail
          refine wp_region_held_drew (S := fun X => Keeps no wr X) (by kernel_rfl) ?_ (fun hHeld => ?_)
          · exact (Keeps.refl _ _).drew
          refine wpAnyH_take (i := 0) (v := ?_) (by simp only [List.getElem?_toArray, List.getElem?_cons_succ, List.getElem?_cons_zero]; rfl) (by kernel_rfl) (by kernel_rfl) (by kernel_rfl) (by exact fun _ _ _ h => h) (Or.inl ⟨by rfl, ?_⟩) (by assumption) ?_
          rotate_left
          · (intro _ hSw; (try dsimp only at hSw); go_simp; (try with_reducible rfl))
          try simp only [Act.put, List.setIfInBounds_toArray, List.set_cons_zero, List.set_cons_succ]
          refine wpAnyH_take (i := 1) (v := ?_) (by simp only [List.getElem?_toArray, List.getElem?_cons_succ, List.getElem?_cons_zero]; rfl) (by kernel_rfl) (by kernel_rfl) (by kernel_rfl) (by exact fun _ _ _ h => h) (Or.inl ⟨by rfl, ?_⟩) (by assumption) ?_
          rotate_left
          · (intro _ hSw; (try dsimp only at hSw); go_simp; (try with_reducible rfl))
          try simp only [Act.put, List.setIfInBounds_toArray, List.set_cons_zero, List.set_cons_succ]
          refine wpAnyH_take (i := 2) (v := ?_) (by simp only [List.getElem?_toArray, List.getElem?_cons_succ, List.getElem?_cons_zero]; rfl) (by kernel_rfl) (by kernel_rfl) (by kernel_rfl) (by exact fun _ _ _ h => h) (Or.inl ⟨by rfl, ?_⟩) (by assumption) ?_
          rotate_left
          · (intro _ hSw; (try dsimp only at hSw); go_simp; (try with_reducible rfl))
          try simp only [Act.put, List.setIfInBounds_toArray, List.set_cons_zero, List.set_cons_succ]
          refine wpAnyH_take (i := 3) (v := ?_) (by simp only [List.getElem?_toArray, List.getElem?_cons_succ, List.getElem?_cons_zero]; rfl) (by kernel_rfl) (by kernel_rfl) (by kernel_rfl) (by exact fun _ _ _ h => h) (Or.inl ⟨by rfl, ?_⟩) (by assumption) ?_
          rotate_left
          · (intro _ hSw; (try dsimp only at hSw); go_simp; (try with_reducible rfl))
          try simp only [Act.put, List.setIfInBounds_toArray, List.set_cons_zero, List.set_cons_succ]
          refine wpAnyH_take (i := 4) (v := ?_) (by simp only [List.getElem?_toArray, List.getElem?_cons_succ, List.getElem?_cons_zero]; rfl) (by kernel_rfl) (by kernel_rfl) (by kernel_rfl) (by exact fun _ _ _ h => h) (Or.inl ⟨by rfl, ?_⟩) (by assumption) ?_
          rotate_left
          · (intro _ hSw; (try dsimp only at hSw); go_simp; (try with_reducible rfl))
          try simp only [Act.put, List.setIfInBounds_toArray, List.set_cons_zero, List.set_cons_succ]
          refine wpAnyH_take (i := 5) (v := ?_) (by simp only [List.getElem?_toArray, List.getElem?_cons_succ, List.getElem?_cons_zero]; rfl) (by kernel_rfl) (by kernel_rfl) (by kernel_rfl) (by exact fun _ _ _ h => h) (Or.inl ⟨by rfl, ?_⟩) (by assumption) ?_
          rotate_left
          · (intro _ hSw; (try dsimp only at hSw); go_simp; (try with_reducible rfl))
          try simp only [Act.put, List.setIfInBounds_toArray, List.set_cons_zero, List.set_cons_succ]
          refine wpAnyH_take (i := 6) (v := ?_) (by simp only [List.getElem?_toArray, List.getElem?_cons_succ, List.getElem?_cons_zero]; rfl) (by kernel_rfl) (by kernel_rfl) (by kernel_rfl) (by exact fun _ _ _ h => h) (Or.inl ⟨by rfl, ?_⟩) (by assumption) ?_
          rotate_left
          · (intro _ hSw; (try dsimp only at hSw); go_simp; (try with_reducible rfl))
          try simp only [Act.put, List.setIfInBounds_toArray, List.set_cons_zero, List.set_cons_succ]
          refine wpAnyH_take (i := 7) (v := ?_) (by simp only [List.getElem?_toArray, List.getElem?_cons_succ, List.getElem?_cons_zero]; rfl) (by kernel_rfl) (by kernel_rfl) (by kernel_rfl) (by exact fun _ _ _ h => h) (Or.inl ⟨by rfl, ?_⟩) (by assumption) ?_
          rotate_left
          · (intro _ hSw; (try dsimp only at hSw); go_simp; (try with_reducible rfl))
          try simp only [Act.put, List.setIfInBounds_toArray, List.set_cons_zero, List.set_cons_succ]
          refine wpAnyH_take (i := 8) (v := ?_) (by simp only [List.getElem?_toArray, List.getElem?_cons_succ, List.getElem?_cons_zero]; rfl) (by kernel_rfl) (by kernel_rfl) (by kernel_rfl) (by exact fun _ _ _ h => h) (Or.inl ⟨by rfl, ?_⟩) (by assumption) ?_
          rotate_left
          · (intro _ hSw; (try dsimp only at hSw); go_simp; (try with_reducible rfl))
          try simp only [Act.put, List.setIfInBounds_toArray, List.set_cons_zero, List.set_cons_succ]
          refine wpAnyH_take (i := 9) (v := ?_) (by simp only [List.getElem?_toArray, List.getElem?_cons_succ, List.getElem?_cons_zero]; rfl) (by kernel_rfl) (by kernel_rfl) (by kernel_rfl) (by exact fun _ _ _ h => h) (Or.inl ⟨by rfl, ?_⟩) (by assumption) ?_
          rotate_left
          · (intro _ hSw; (try dsimp only at hSw); go_simp; (try with_reducible rfl))
          try simp only [Act.put, List.setIfInBounds_toArray, List.set_cons_zero, List.set_cons_succ]
          refine wpAnyH_take (i := 10) (v := ?_) (by simp only [List.getElem?_toArray, List.getElem?_cons_succ, List.getElem?_cons_zero]; rfl) (by kernel_rfl) (by kernel_rfl) (by kernel_rfl) (by exact fun _ _ _ h => h) (Or.inl ⟨by rfl, ?_⟩) (by assumption) ?_
          rotate_left
          · (intro _ hSw; (try dsimp only at hSw); go_simp; (try with_reducible rfl))
          try simp only [Act.put, List.setIfInBounds_toArray, List.set_cons_zero, List.set_cons_succ]
          refine wpAnyH_take (i := 11) (v := ?_) (by simp only [List.getElem?_toArray, List.getElem?_cons_succ, List.getElem?_cons_zero]; rfl) (by kernel_rfl) (by kernel_rfl) (by kernel_rfl) (by exact fun _ _ _ h => h) (Or.inl ⟨by rfl, ?_⟩) (by assumption) ?_
          rotate_left
          · (intro _ hSw; (try dsimp only at hSw); go_simp; (try with_reducible rfl))
          try simp only [Act.put, List.setIfInBounds_toArray, List.set_cons_zero, List.set_cons_succ]
          refine wpAnyH_take (i := 12) (v := ?_) (by simp only [List.getElem?_toArray, List.getElem?_cons_succ, List.getElem?_cons_zero]; rfl) (by kernel_rfl) (by kernel_rfl) (by kernel_rfl) (by exact fun _ _ _ h => h) (Or.inl ⟨by rfl, ?_⟩) (by assumption) ?_
          rotate_left
          · (intro _ hSw; (try dsimp only at hSw); have g9 := hSw.cellN dm; go_simp; (try with_reducible rfl))
          try simp only [Act.put, List.setIfInBounds_toArray, List.set_cons_zero, List.set_cons_succ]
          refine wpAnyH_take (i := 14) (v := ?_) (by simp only [List.getElem?_toArray, List.getElem?_cons_succ, List.getElem?_cons_zero]; rfl) (by kernel_rfl) (by kernel_rfl) (by kernel_rfl) (by exact fun _ _ _ h => h) (Or.inl ⟨by rfl, ?_⟩) (by assumption) ?_
          rotate_left
          · (intro _ hSw; (try dsimp only at hSw); go_simp; (try with_reducible rfl))
          try simp only [Act.put, List.setIfInBounds_toArray, List.set_cons_zero, List.set_cons_succ]
          refine wpAnyH_take (i := 15) (v := ?_) (by simp only [List.getElem?_toArray, List.getElem?_cons_succ, List.getElem?_cons_zero]; rfl) (by kernel_rfl) (by kernel_rfl) (by kernel_rfl) (by exact fun _ _ _ h => h) (Or.inl ⟨by rfl, ?_⟩) (by assumption) ?_
          rotate_left
          · (intro _ hSw; (try dsimp only at hSw); go_simp; (try with_reducible rfl))
          try simp only [Act.put, List.setIfInBounds_toArray, List.set_cons_zero, List.set_cons_succ]
          refine wpAnyH_take (i := 16) (v := ?_) (by simp only [List.getElem?_toArray, List.getElem?_cons_succ, List.getElem?_cons_zero]; rfl) (by kernel_rfl) (by kernel_rfl) (by kernel_rfl) (by exact fun _ _ _ h => h) (Or.inl ⟨by rfl, ?_⟩) (by assumption) ?_
          rotate_left
          · (intro _ hSw; (try dsimp only at hSw); go_simp; (try with_reducible rfl))
          try simp only [Act.put, List.setIfInBounds_toArray, List.set_cons_zero, List.set_cons_succ]
          refine wpAnyH_take (i := 17) (v := ?_) (by simp only [List.getElem?_toArray, List.getElem?_cons_succ, List.getElem?_cons_zero]; rfl) (by kernel_rfl) (by kernel_rfl) (by kernel_rfl) (by exact fun _ _ _ h => h) (Or.inl ⟨by rfl, ?_⟩) (by assumption) ?_
          rotate_left
          · (intro _ hSw; (try dsimp only at hSw); go_simp; (try with_reducible rfl))
          try simp only [Act.put, List.setIfInBounds_toArray, List.set_cons_zero, List.set_cons_succ]
          refine wpAnyH_take (i := 18) (v := ?_) (by simp only [List.getElem?_toArray, List.getElem?_cons_succ, List.getElem?_cons_zero]; rfl) (by kernel_rfl) (by kernel_rfl) (by kernel_rfl) (by exact fun _ _ _ h => h) (Or.inl ⟨by rfl, ?_⟩) (by assumption) ?_
          rotate_left
          · (intro _ hSw; (try dsimp only at hSw); have g9 := hSw.cellN d0; go_simp; (try with_reducible rfl))
          try simp only [Act.put, List.setIfInBounds_toArray, List.set_cons_zero, List.set_cons_succ]
          refine wpAnyH_ready (rs := [13]) (by kernel_rfl) (by simp) ?_
          refine AllReadyH.cons (by simp only [List.getElem?_toArray, List.getElem?_cons_succ, List.getElem?_cons_zero]; rfl) (fun Kq hKq => ?_) AllReadyH.nil
          go_simp
          refine (HKY.out _).mono ?_
          rintro e w7 ⟨_, rfl, o7, n7, c7, rfl, hn7, ho7, hnw7, hk7⟩
          have hx := hHeld.trans hk7
          have HHS : Hid (Calls Try.prog 21 #[.slice o7 n7 c7, .string px] w7 fun e w' => e = .returned (.bool true) ∧ w' = w7) := by
            have h := has_any w7 o7 n7 c7 (setM zm) px hn7.out (by have := setM_len zm; omega) ho7.sl
            rw [HIN.out] at h
            exact h
          clear hn7 ho7 hnw7 hk7
          refine hKq.out _ _ ?_ (fun hHeldN => ?_)
          · exact hx
          clear hKq Kq hHeld
          have hHeld := hHeldN
          clear hHeldN
          refine wpAnyH_ready (rs := [19]) (by kernel_rfl) (by simp) ?_
          refine AllReadyH.cons (by simp only [List.getElem?_toArray, List.getElem?_cons_succ, List.getElem?_cons_zero]; rfl) (fun Kq hKq => ?_) AllReadyH.nil
          go_simp
          refine Calls.mono HHS.out ?_
          rintro e wq ⟨rfl, hwq⟩
          subst wq
          refine hKq.out _ _ ?_ (fun hHeldN => ?_)
          · exact hHeld
          clear hKq Kq hHeld
          have hHeld := hHeldN
          clear hHeldN
          refine wpAnyH_take (i := 20) (v := ?_) (by simp only [List.getElem?_toArray, List.getElem?_cons_succ, List.getElem?_cons_zero]; rfl) (by kernel_rfl) (by kernel_rfl) (by kernel_rfl) (by exact fun _ _ _ h => h) (Or.inl ⟨by rfl, ?_⟩) (by assumption) ?_
          rotate_left
          · (intro _ hSw; (try dsimp only at hSw); go_simp; (try with_reducible rfl))
          try simp only [Act.put, List.setIfInBounds_toArray, List.set_cons_zero, List.set_cons_succ]
          refine wpAnyH_take (i := 21) (v := ?_) (by simp only [List.getElem?_toArray, List.getElem?_cons_succ, List.getElem?_cons_zero]; rfl) (by kernel_rfl) (by kernel_rfl) (by kernel_rfl) (by exact fun _ _ _ h => h) (Or.inl ⟨by rfl, ?_⟩) (by assumption) ?_
          rotate_left
          · (intro _ hSw; (try dsimp only at hSw); go_simp; (try with_reducible rfl))
          try simp only [Act.put, List.setIfInBounds_toArray, List.set_cons_zero, List.set_cons_succ]
          refine wpAnyH_done (by kernel_rfl) ?_ _
          have HW7 : Hid (Keeps no wr w7) := hHeld
          have e0' := hHeld.cellN d0
          clear hHeld HHS d0 d1 dm hx
          go_wp2_with fail
          refine Calls.mono (HMD.out _ HW7.out) ?_
          rintro e w8 ⟨_, rfl, o5, n5, c5, rfl, hn5, ho5, hnw5, hk5⟩
          have H8 : Hid (NewVs w5 og cg rg gs w8 ∧ VerN w8 ⟨px, 65536 * (N + 1), VM N px, o5, n5, c5⟩ (madeV mt N px) ∧ New w5 o5) := ⟨(HG.out.2.2.1.keepsN HW7.out).keepsN hk5, ⟨rfl, rfl, rfl, hn5.out, ho5⟩, hnw5.of_le (Nat.le_trans HG.out.2.2.1.kp.size HW7.out.size)⟩
          have HRL : Hid (ng = rg.length ∧ rg.length ≤ 28) := by
            have h1 := HG.out.2.2.1.len
            have h2 := HG.out.1
            have h3 := HG.out.2.1
            exact ⟨by omega, by omega⟩
          clear HMD hn5 ho5 hnw5 hk5
          go_wp2_with (at_builtin; refine wpList_app okV rfl _ _ rfl _ _ _ rg rfl HRL.out.1 (H8.out.1.own.keepsN ((Keeps.refl _ _).alloc _)) _ _ _ [⟨px, 65536 * (N + 1), VM N px, o5, n5, c5⟩] rfl rfl (fun h => by cases h) (own_oneV w8 ⟨px, 65536 * (N + 1), VM N px, o5, n5, c5⟩).row (by have := HRL.out.2; simp [VE]; omega) (by have := HRL.out.2; simp; omega) ?_; intro os6 cs6 ws6 hos6 haps6)
          go_roundw
          case rel =>
            have h1 := H8.out.1.keepsN ((Keeps.refl no w8).alloc (.cells #[.string px, .int .u64 ((65536 * (N + 1) : Nat) : Int), .string (VM N px), .slice o5 n5 c5] 32))
            refine ⟨k, by omega, by go_num, os6, _, cs6, _, gs ++ [madeV mt N px], rfl, ?_, ?_, h1.push (H8.out.2.1.keepsN ((Keeps.refl _ _).alloc _)) H8.out.2.2 hos6 haps6, ?_, ?_⟩
            · rw [List.length_append, ← HG.out.1]; rfl
            · have := HG.out.2.1; rw [List.length_append]; simp; omega
            · intro g hg
              rcases List.mem_append.1 hg with hg | hg
              · exact HG.out.2.2.2.1 g hg
              · rcases List.mem_cons.1 hg with rfl | hg
                · exact ⟨made_fit (by have := HPI.out.2.2.1; have := HMS.out.2.2.2; omega) (by have := HPI.out.2.1; omega), N, HPI.out.2.2.1, HPI.out.2.2.2, rfl⟩
                · cases hg
            · intro i' h1 h2
              by_cases e : i' = k
              · rw [e, HPE.out]
                exact ⟨madeV mt N px, List.mem_append_right _ (by simp), rfl, HPI.out.1.symm⟩
              · obtain ⟨g, hg, h3⟩ := HG.out.2.2.2.2 i' (by omega) h2
                exact ⟨g, List.mem_append_left _ hg, h3⟩
          case measure => first | (simp [intOf]; done) | (simp [intOf]; omega)
      | zero =>
        have e1 : ((0 : Nat) : Int) - 1 = -1 := by omega
        rw [e1]
        clear e1 HGT
        have HME : Hid (mendV vs gs = some (vs.map (mendW (KM mt) VM vs))) := mend_eq HRD.out.ofw (fun g hg => (hgn g hg).2) (fun p hp => by
          obtain ⟨i, hi, rfl⟩ := List.getElem_of_mem hp
          obtain ⟨g, hg, h1, h2⟩ := hgw i (by omega) hi
          exact ⟨g, hg, by simpa [hi] using h1, by simpa [hi] using h2⟩)
        have HMI : Hid (Md mt vs (vs.map (mendW (KM mt) VM vs))) := md_of HMS.out.2.2.2 HRD.out
        generalize vs.map (mendW (KM mt) VM vs) = m at HME HMI
        have HMC : Hid (Calls Try.prog 14 #[.slice o n c, .slice og ng cg] wr fun e w' => ∃ u, e = .returned u ∧ MendP wr vs gs u w') := pMend_any wr o n c rs vs og ng cg rg gs HV.out.1 hng HRD.out.fit ⟨by omega, fun v hv => (hgn v hv).1⟩ (HV5.out.1.vers.keepsN hgv.kp) hgv.vers
        have HVR : Hid (NewVs w o c rs vs wr ∧ Own WE wr ow cw (needsV vs)) := ⟨HV5.out.1.keepsN hgv.kp, HV5.out.2.2.keepsN hgv.kp⟩
        clear hng hgl hgv hgn hgw
        go_wp2_with fail
        refine Calls.mono HMC.out ?_
        rintro e w9 ⟨u, rfl, hu⟩
        clear HMC
        rcases hu with ⟨hb, _⟩ | ⟨_, hm, _⟩ | ⟨_, m', o1, n1, c1, r1, hm, rfl, hn1, hv1⟩
        · rw [(formedB_iff vs).2 HRD.out.formed] at hb; cases hb
        · rw [HME.out] at hm; cases hm
        obtain rfl : m' = m := by rw [HME.out] at hm; cases hm; rfl
        have H9 : Hid (NewVs w o c rs vs w9 ∧ Own WE w9 ow cw (needsV vs) ∧ Vers w9 o1 c1 r1 m') := ⟨HVR.out.1.keepsN hv1.kp, HVR.out.2.keepsN hv1.kp, hv1.vers⟩
        have hnn : n1 = n := by rw [hn1, HMI.out.len]; exact HV.out.1.symm
        subst hnn
        have HN1 : Hid (n1 = m'.length) := hn1
        clear hm hn1 hv1 HVR HME
        have HF9 : Hid (Calls Try.prog 11 #[.slice o1 n1 c1] w9 fun e w' => e = .returned (.bool true) ∧ Keeps no w9 w') := by
          have h := pFormed_any w9 o1 n1 c1 r1 m' HN1.out HMI.out.fit H9.out.2.2
          rw [(formedB_iff m').2 HMI.out.formed] at h
          exact h
        go_wp2_with fail
        refine Calls.mono HF9.out ?_
        rintro e wa ⟨rfl, hka⟩
        have Ha : Hid (NewVs w o c rs vs wa ∧ Own WE wa ow cw (needsV vs) ∧ Vers wa o1 c1 r1 m') := ⟨H9.out.1.keepsN hka, H9.out.2.1.keepsN hka, H9.out.2.2.keepsN hka⟩
        clear H9 hka HF9
        have HCa : Hid (Calls Try.prog 15 #[.slice o1 n1 c1] wa fun e w' => e = .returned (.bool true) ∧ Keeps no wa w') := by
          have h := pCut_any wa o1 n1 c1 r1 m' HN1.out HMI.out.fit Ha.out.2.2
          rw [(formedB_iff m').2 HMI.out.formed, (wholeB_iff m').2 HMI.out.whole] at h
          exact h
        go_wp2_with fail
        refine Calls.mono HCa.out ?_
        rintro e wb ⟨rfl, hkb⟩
        have Hb : Hid (NewVs w o c rs vs wb ∧ Own WE wb ow cw (needsV vs) ∧ Vers wb o1 c1 r1 m') := ⟨Ha.out.1.keepsN hkb, Ha.out.2.1.keepsN hkb, Ha.out.2.2.keepsN hkb⟩
        clear Ha hkb HCa
        go_wp2_with fail
        go_loopw [21] (fun s21 wr => ∃ i : Nat, i ≤ n1 ∧ s21 = .int .i64 i ∧ Hid (Keeps no wb wr)) (fun s21 _ => n1 - (intOf s21).toNat)
        case atStart => exact ⟨0, by omega, rfl, Keeps.refl _ _⟩
        case round =>
          rename World => wc
          obtain ⟨i, hi, rfl, HKC⟩ := hrel
          by_cases hlt : i < n1
          · have hlt' : (i : Int) < n1 := by omega
            have hil : i < vs.length := by have := HV.out.1; omega
            have him : i < m'.length := by have := HN1.out; omega
            have HMX : Hid ((m'.getD i v0).key = (vs.getD i v0).key ∧ (m'.getD i v0).id = mostV vs (vs.getD i v0) ∧ (vs.getD i v0).id ≤ mostV vs (vs.getD i v0) ∧ (¬ (vs.getD i v0).id < mostV vs (vs.getD i v0) → m'.getD i v0 = vs.getD i v0) ∧ thereTo vs (m'.getD i v0).id vs.length = true ∧ wantTo vs (vs.getD i v0) (needsV vs).length = decide ((vs.getD i v0).id < mostV vs (vs.getD i v0))) := ⟨HMI.out.key hil, HMI.out.id HRD.out hil, most_ge _ _, fun h => HMI.out.same HRD.out hil h, thereTo_all (HMI.out.there HRD.out hil), wantTo_all HRD.out hil⟩
            have HFI : Hid (FitV (m'.getD i v0) ∧ FitV (vs.getD i v0)) := ⟨HMI.out.fit.at him, HRD.out.fit.at hil⟩
            go_wp2_with fail
            go_loopw [22] (fun s22 wx => ∃ k : Nat, k ≤ n1 ∧ s22 = .int .i64 k ∧ Hid (Keeps no wb wx)) (fun s22 _ => n1 - (intOf s22).toNat)
            case atStart => exact ⟨0, by omega, rfl, HKC⟩
            case round =>
              rename World => wx
              obtain ⟨k, hk, rfl, HKX⟩ := hrel
              by_cases hkn : k < n1
              · as_aux_lemma =>
                  have hkn' : (k : Int) < n1 := by omega
                  have hkm : k < m'.length := by have := HN1.out; omega
                  obtain ⟨b1, off1, p1, q1, d1, ho1, x0, x1, x2, x3, hn1, hs1⟩ := (Hb.out.2.2.keepsN HKX.out).at him
                  obtain ⟨b2, off2, p2, q2, d2, ho2, y0, y1, y2, y3, hn2, hs2⟩ := (Hb.out.2.2.keepsN HKX.out).at hkm
                  have hbo : b2 = b1 ∧ off2 = off1 := by rw [ho1] at ho2; cases ho2; exact ⟨rfl, rfl⟩
                  obtain ⟨rfl, rfl⟩ := hbo
                  subst ho1
                  clear ho2 x0 x2 y2 y3 hn2 hs2
                  have HCT : Hid (inn (m'.getD i v0).keys (m'.getD k v0).key = true → ¬ (m'.getD k v0).id < (m'.getD i v0).id) := fun h => HMI.out.cut him hkm h
                  have HIB : Hid ((m'.getD i v0).id < 18446744073709551616 ∧ (m'.getD k v0).id < 18446744073709551616) := ⟨HFI.out.1.id, (HMI.out.fit.at hkm).id⟩
                  have cS := has_grown p1 q1 d1 _ (m'.getD k v0).key hn1 HFI.out.1.len hs1
                  generalize (m'.getD k v0).key = kk at y0 cS HCT
                  generalize (m'.getD k v0).id = ki at y1 HCT HIB
                  generalize hmi : (m'.getD i v0).id = mi at x1 HCT HIB
                  generalize (m'.getD i v0).keys = mks at hn1 hs1 cS HCT
                  clear hn1 hs1 hkm hmi
                  have z1 := cell_regrown x1
                  have z3 := cell_regrown x3
                  have z4 := cell_regrown y0
                  have z5 := cell_regrown y1
                  have HC : Hid (∀ d os, Calls Try.prog 21 #[.slice p1 q1 d1, .string kk] (Sort.grow (redrawn wx d) os) fun e w'' => e = .returned (.bool (inn mks kk)) ∧ ∃ p : Regrown, w'' = Sort.grow (redrawn wx p.d) p.os) := cS
                  clear cS
                  obtain ⟨Bq, hBq⟩ : ∃ B, B = inn mks kk := ⟨_, rfl⟩
                  rw [← hBq] at HC HCT
                  clear hBq
                  cases Bq with
                  | true =>
                    have e4 : ¬ (ki : Int) < (mi : Int) := by have := HCT.out rfl; omega
                    have e4' : decide ((ki : Int) < (mi : Int)) = false := by rw [decide_eq_false_iff_not]; exact e4
                    have e6 : decide (ki < mi) = false := by rw [decide_eq_false_iff_not]; omega
                    go_wp2_with fail
                    refine wp_region_quiet_below (by kernel_rfl) (by kernel_rfl) ?_
                    repeat (go_big_quiet_step (exact HC.out _ _))
                    refine wpQuiet_nil ?_
                    intro _ hw'
                    obtain ⟨⟨dq, osq⟩, rfl⟩ := hw'
                    have K1 : Hid (Keeps no wb (Sort.grow (redrawn wx dq) osq)) := HKX.out.trans (keeps_grown ..)
                    generalize Sort.grow (redrawn wx dq) osq = u1 at K1 ⊢
                    clear x1 x3 y0 y1 z1 z3 z4 z5 HC HCT
                    go_wp2_with fail
                    go_roundw
                    case rel => exact ⟨k + 1, by omega, by go_num, K1⟩
                    case measure => simp [intOf]; omega
                  | false =>
                    go_wp2_with fail
                    refine wp_region_quiet_below (by kernel_rfl) (by kernel_rfl) ?_
                    repeat (go_big_quiet_step (exact HC.out _ _))
                    refine wpQuiet_nil ?_
                    intro _ hw'
                    obtain ⟨⟨dq, osq⟩, rfl⟩ := hw'
                    have K1 : Hid (Keeps no wb (Sort.grow (redrawn wx dq) osq)) := HKX.out.trans (keeps_grown ..)
                    generalize Sort.grow (redrawn wx dq) osq = u1 at K1 ⊢
                    clear x1 x3 y0 y1 z1 z3 z4 z5 HC HCT
                    go_wp2_with fail
                    go_roundw
                    case rel => exact ⟨k + 1, by omega, by go_num, K1⟩
                    case measure => simp [intOf]; omega
              · have hkn' : ¬ (k : Int) < n1 := by omega
                go_wp2_with fail
                go_loopw [23, 24] (fun s23 s24 wy => ∃ (k : Nat) (F : Bool), k ≤ nw ∧ s24 = .int .i64 k ∧ s23 = .bool F ∧ Hid (F = wantTo vs (vs.getD i v0) k) ∧ Hid (Keeps no wb wy)) (fun _ s24 _ => nw - (intOf s24).toNat)
                case atStart => exact ⟨0, false, by omega, rfl, rfl, rfl, HKX⟩
                case round =>
                  rename World => wy
                  obtain ⟨k2, F, hk2, rfl, rfl, HFW, HKY⟩ := hrel
                  by_cases hk2n : k2 < nw
                  · as_aux_lemma =>
                      have hk2n' : (k2 : Int) < nw := by omega
                      have hkw : k2 < (needsV vs).length := by have := HV5.out.2.1; omega
                      have HWS : Hid (wantTo vs (vs.getD i v0) (k2 + 1) = (wantTo vs (vs.getD i v0) k2 || decide (((needsV vs).getD k2 w0').1 = (vs.getD i v0).key))) := wantTo_succ vs _ k2 hkw
                      cases F with
                      | true =>
                        have HW2 : Hid (true = wantTo vs (vs.getD i v0) (k2 + 1)) := by show _ = _; rw [HWS.out, ← HFW.out]; rfl
                        clear HWS HFW
                        go_wp2_with fail
                        refine wp_region_quiet_below (by kernel_rfl) (by kernel_rfl) ?_
                        repeat (go_big_quiet_step (fail))
                        refine wpQuiet_nil ?_
                        intro _ hw'
                        obtain ⟨⟨dq, osq⟩, rfl⟩ := hw'
                        have K1 : Hid (Keeps no wb (Sort.grow (redrawn wy dq) osq)) := HKY.out.trans (keeps_grown ..)
                        generalize Sort.grow (redrawn wy dq) osq = u1 at K1 ⊢
                        clear hk2n'
                        go_wp2_with fail
                        go_roundw
                        case rel => exact ⟨k2 + 1, true, by omega, by go_num, rfl, HW2, K1⟩
                        case measure => simp [intOf]; omega
                      | false =>
                        obtain ⟨b1, off1, ho1, x0, x1⟩ := (Hb.out.2.1.keepsN HKY.out).sl.atW hkw
                        obtain ⟨b2, off2, p2, q2, d2, ho2, y0, y1, y2, y3, hn2, hs2⟩ := (Hb.out.1.vers.keepsN HKY.out).at hil
                        subst ho1 ho2
                        clear x1 y1 y2 y3 hn2 hs2
                        generalize ((needsV vs).getD k2 w0').1 = pk at x0 HWS
                        generalize hyk : (vs.getD i v0).key = yk at y0 HWS
                        have z0 := cell_regrown x0
                        have z1 := cell_regrown y0
                        obtain ⟨Bq, hBq⟩ : ∃ B, (pk.toList == yk.toList) = B := ⟨_, rfl⟩
                        have HW2 : Hid (Bq = wantTo vs (vs.getD i v0) (k2 + 1)) := by show _ = _; rw [HWS.out, ← HFW.out, ← hBq, tx_eq]; rfl
                        clear HWS HFW hyk
                        go_wp2_with fail
                        refine wp_region_quiet_below (by kernel_rfl) (by kernel_rfl) ?_
                        repeat (go_big_quiet_step (fail))
                        refine wpQuiet_nil ?_
                        intro _ hw'
                        obtain ⟨⟨dq, osq⟩, rfl⟩ := hw'
                        have K1 : Hid (Keeps no wb (Sort.grow (redrawn wy dq) osq)) := HKY.out.trans (keeps_grown ..)
                        generalize Sort.grow (redrawn wy dq) osq = u1 at K1 ⊢
                        clear x0 y0 z0 z1 hBq
                        go_wp2_with fail
                        go_roundw
                        case rel => exact ⟨k2 + 1, Bq, by omega, by go_num, rfl, HW2, K1⟩
                        case measure => simp [intOf]; omega
                  · have hk2n' : ¬ (k2 : Int) < nw := by omega
                    have HFX : Hid (F = decide ((vs.getD i v0).id < mostV vs (vs.getD i v0))) := by
                      show _ = _
                      rw [HFW.out, show k2 = (needsV vs).length by have := HV5.out.2.1; omega]
                      exact HMX.out.2.2.2.2.2
                    clear HFW
                    go_wp2_with fail
                    go_loopw [25, 26] (fun s25 s26 wz => ∃ (k : Nat) (T : Bool), k ≤ n1 ∧ s26 = .int .i64 k ∧ s25 = .bool T ∧ Hid (T = thereTo vs (m'.getD i v0).id k) ∧ Hid (Keeps no wb wz)) (fun _ s26 _ => n1 - (intOf s26).toNat)
                    case atStart => exact ⟨0, false, by omega, rfl, rfl, rfl, HKY⟩
                    case round =>
                      rename World => wz
                      obtain ⟨k3, T, hk3, rfl, rfl, HTW, HKZ⟩ := hrel
                      by_cases hk3n : k3 < n1
                      · as_aux_lemma =>
                          have hk3n' : (k3 : Int) < n1 := by omega
                          have hkv : k3 < vs.length := by have := HV.out.1; omega
                          have HWS : Hid (thereTo vs (m'.getD i v0).id (k3 + 1) = (thereTo vs (m'.getD i v0).id k3 || decide ((vs.getD k3 v0).id = (m'.getD i v0).id))) := thereTo_succ vs _ k3 hkv
                          cases T with
                          | true =>
                            have HW2 : Hid (true = thereTo vs (m'.getD i v0).id (k3 + 1)) := by show _ = _; rw [HWS.out, ← HTW.out]; rfl
                            clear HWS HTW
                            go_wp2_with fail
                            refine wp_region_quiet_below (by kernel_rfl) (by kernel_rfl) ?_
                            repeat (go_big_quiet_step (fail))
                            refine wpQuiet_nil ?_
                            intro _ hw'
                            obtain ⟨⟨dq, osq⟩, rfl⟩ := hw'
                            have K1 : Hid (Keeps no wb (Sort.grow (redrawn wz dq) osq)) := HKZ.out.trans (keeps_grown ..)
                            generalize Sort.grow (redrawn wz dq) osq = u1 at K1 ⊢
                            clear hk3n'
                            go_wp2_with fail
                            go_roundw
                            case rel => exact ⟨k3 + 1, true, by omega, by go_num, rfl, HW2, K1⟩
                            case measure => simp [intOf]; omega
                          | false =>
                            obtain ⟨b1, off1, p1, q1, d1, ho1, x0, x1, x2, x3, hn1, hs1⟩ := (Hb.out.1.vers.keepsN HKZ.out).at hkv
                            obtain ⟨b2, off2, p2, q2, d2, ho2, y0, y1, y2, y3, hn2, hs2⟩ := (Hb.out.2.2.keepsN HKZ.out).at him
                            subst ho1 ho2
                            clear x0 x2 x3 hn1 hs1 y0 y2 y3 hn2 hs2
                            have HIB : Hid ((vs.getD k3 v0).id < 18446744073709551616) := (HRD.out.fit.at hkv).id
                            generalize (vs.getD k3 v0).id = ai at x1 HWS HIB
                            generalize hmi : (m'.getD i v0).id = mi at y1 HWS HTW
                            have HMI2 : Hid ((m'.getD i v0).id = mi) := hmi
                            clear hmi
                            have z0 := cell_regrown x1
                            have z1 := cell_regrown y1
                            obtain ⟨Bq, hBq⟩ : ∃ B, ((ai : Int) == (mi : Int)) = B := ⟨_, rfl⟩
                            have HW2 : Hid (Bq = thereTo vs mi (k3 + 1)) := by
                              show _ = _
                              rw [HWS.out, ← HTW.out, ← hBq, Bool.false_or, Bool.eq_iff_iff, decide_eq_true_eq, beq_iff_eq]
                              omega
                            clear HWS HTW
                            go_wp2_with fail
                            refine wp_region_quiet_below (by kernel_rfl) (by kernel_rfl) ?_
                            repeat (go_big_quiet_step (fail))
                            refine wpQuiet_nil ?_
                            intro _ hw'
                            obtain ⟨⟨dq, osq⟩, rfl⟩ := hw'
                            have K1 : Hid (Keeps no wb (Sort.grow (redrawn wz dq) osq)) := HKZ.out.trans (keeps_grown ..)
                            generalize Sort.grow (redrawn wz dq) osq = u1 at K1 ⊢
                            clear x1 y1 z0 z1 hBq
                            go_wp2_with fail
                            go_roundw
                            case rel => exact ⟨k3 + 1, Bq, by omega, by go_num, rfl, HW2, K1⟩
                            case measure => simp [intOf]; omega
                      · have hk3n' : ¬ (k3 : Int) < n1 := by omega
                        have HT1 : Hid (T = true) := by
                          show _ = _
                          rw [HTW.out, show k3 = vs.length by have := HV.out.1; omega]
                          exact HMX.out.2.2.2.2.1
                        have hT1 := HT1.out
                        subst hT1
                        clear HTW HT1
                        as_aux_lemma =>
                          obtain ⟨b1, off1, p1, q1, d1, ho1, x0, x1, x2, x3, hn1, hs1⟩ := (Hb.out.1.vers.keepsN HKZ.out).at hil
                          obtain ⟨b2, off2, p2, q2, d2, ho2, y0, y1, y2, y3, hn2, hs2⟩ := (Hb.out.2.2.keepsN HKZ.out).at him
                          clear x2 x3 hn1 hs1 y2 y3 hn2 hs2
                          rw [HMX.out.1] at y0
                          obtain ⟨A1, D1, hc1, hv1⟩ := cutV1 (Hb.out.1.vers.keepsN HKZ.out) HV.out.1 hlt
                          obtain ⟨A2, D2, hc2, hv2⟩ := cutV1 (Hb.out.2.2.keepsN HKZ.out) HN1.out hlt
                          subst ho1 ho2
                          have HID : Hid ((vs.getD i v0).id < 18446744073709551616 ∧ (m'.getD i v0).id < 18446744073709551616 ∧ (vs.getD i v0).id ≤ (m'.getD i v0).id) := ⟨HFI.out.2.id, HFI.out.1.id, by rw [HMX.out.2.1]; exact HMX.out.2.2.1⟩
                          have HMI3 : Hid ((m'.getD i v0).id = mostV vs (vs.getD i v0)) := HMX.out.2.1
                          cases F with
                          | false =>
                            have hnw2 : ¬ (vs.getD i v0).id < mostV vs (vs.getD i v0) := of_decide_eq_false HFX.out.symm
                            have hsm := HMX.out.2.2.2.1 hnw2
                            have HS : Hid (∀ d os, Calls Try.prog 22 #[.slice A2 1 D2, .slice A1 1 D1] (Sort.grow (redrawn wz d) os) fun e w'' => e = .returned (.bool true) ∧ ∃ p : Regrown, w'' = Sort.grow (redrawn wz p.d) p.os) := by
                              intro d os
                              have h := same_grown A2 1 D2 A1 1 D1 _ _ [m'.getD i v0] [vs.getD i v0] rfl rfl ⟨by simp, fun v hv => by rcases List.mem_cons.1 hv with rfl | hv; exact HFI.out.1; cases hv⟩ ⟨by simp, fun v hv => by rcases List.mem_cons.1 hv with rfl | hv; exact HFI.out.2; cases hv⟩ hv2 hv1 d os
                              rw [decide_eq_true (by rw [hsm])] at h
                              exact h
                            clear hv1 hv2 hnw2 hsm HFX
                            generalize (vs.getD i v0).key = yk at x0 y0
                            generalize (vs.getD i v0).id = yi at x1 HID
                            generalize (m'.getD i v0).id = mi at y1 HID
                            have e4 : ¬ (mi : Int) < (yi : Int) := by have := HID.out; omega
                            have e4' : decide ((mi : Int) < (yi : Int)) = false := by rw [decide_eq_false_iff_not]; exact e4
                            have e6 : decide (mi < yi) = false := by rw [decide_eq_false_iff_not]; have := HID.out; omega
                            have z0 := cell_regrown x0
                            have z1 := cell_regrown x1
                            have z2 := cell_regrown y0
                            have z3 := cell_regrown y1
                            go_wp2_with fail
                            refine wp_region_quiet_below (by kernel_rfl) (by kernel_rfl) ?_
                            repeat (go_big_quiet_step (exact HS.out _ _))
                            refine wpQuiet_nil ?_
                            intro _ hw'
                            obtain ⟨⟨dq, osq⟩, rfl⟩ := hw'
                            have K1 : Hid (Keeps no wb (Sort.grow (redrawn wz dq) osq)) := HKZ.out.trans (keeps_grown ..)
                            generalize Sort.grow (redrawn wz dq) osq = u1 at K1 ⊢
                            clear x0 x1 y0 y1 z0 z1 z2 z3
                            go_wp2_with fail
                            go_roundw
                            case rel => exact ⟨i + 1, by omega, by go_num, K1⟩
                            case measure => simp [intOf]; omega
                          | true =>
                            have hnw2 : (vs.getD i v0).id < mostV vs (vs.getD i v0) := of_decide_eq_true HFX.out.symm
                            have HLT : Hid ((vs.getD i v0).id < (m'.getD i v0).id) := (show _ < _ by rw [HMI3.out]; exact hnw2)
                            clear hv1 hv2 hnw2 HFX
                            generalize (vs.getD i v0).key = yk at x0 y0
                            generalize (vs.getD i v0).id = yi at x1 HID HLT
                            generalize (m'.getD i v0).id = mi at y1 HID HLT
                            have e4 : ¬ (mi : Int) < (yi : Int) := by have := HID.out; omega
                            have e4' : decide ((mi : Int) < (yi : Int)) = false := by rw [decide_eq_false_iff_not]; exact e4
                            have e6 : decide (mi < yi) = false := by rw [decide_eq_false_iff_not]; have := HID.out; omega
                            have e5 : ((mi : Int) == (yi : Int)) = false := by have := HLT.out; simp; omega
                            have e5' : ¬ (mi : Int) = (yi : Int) := by have := HLT.out; omega
                            have e7 : (mi == yi) = false := by have := HLT.out; simp; omega
                            have e8 : ¬ mi = yi := by have := HLT.out; omega
                            have z0 := cell_regrown x0
                            have z1 := cell_regrown x1
                            have z2 := cell_regrown y0
                            have z3 := cell_regrown y1
                            go_wp2_with fail
                            refine wp_region_quiet_below (by kernel_rfl) (by kernel_rfl) ?_
                            repeat (go_big_quiet_step (fail))
                            refine wpQuiet_nil ?_
                            intro _ hw'
                            obtain ⟨⟨dq, osq⟩, rfl⟩ := hw'
                            have K1 : Hid (Keeps no wb (Sort.grow (redrawn wz dq) osq)) := HKZ.out.trans (keeps_grown ..)
                            generalize Sort.grow (redrawn wz dq) osq = u1 at K1 ⊢
                            clear x0 x1 y0 y1 z0 z1 z2 z3
                            go_wp2_with fail
                            go_roundw
                            case rel => exact ⟨i + 1, by omega, by go_num, K1⟩
                            case measure => simp [intOf]; omega
          · have hlt' : ¬ (i : Int) < n1 := by omega
            as_aux_lemma =>
              have HNE : Hid (Calls Try.prog 13 #[.slice o1 n1 c1] wc fun e w' => ∃ u, e = .returned u ∧ NeedTo wc m' u w') := pNeeds_any wc o1 n1 c1 r1 m' HN1.out HMI.out.fit (Hb.out.2.2.keepsN HKC.out)
              go_wp2_with fail
              refine Calls.mono HNE.out ?_
              rintro e wd ⟨u, rfl, hu⟩
              clear HNE
              rcases hu with ⟨hb, _⟩ | ⟨_, o3, n3, c3, rfl, hn3, ho3, hw3, hk3⟩
              · rw [(formedB_iff m').2 HMI.out.formed] at hb; cases hb
              have hn30 : n3 = 0 := by rw [hn3, (needs_nil m').2 HMI.out.whole]; rfl
              subst hn30
              have HVD : Hid (Vers wd o1 c1 r1 m' ∧ Keeps no w wd) := ⟨(Hb.out.2.2.keepsN HKC.out).keepsN hk3, (Hb.out.1.kp.trans HKC.out).trans hk3⟩
              clear hn3 ho3 hw3 hk3
              have HME2 : Hid (Calls Try.prog 14 #[.slice o1 n1 c1, .slice none 0 0] wd fun e w' => ∃ u, e = .returned u ∧ MendP wd m' [] u w') := pMend_any wd o1 n1 c1 r1 m' none 0 0 [] [] HN1.out rfl HMI.out.fit fitL_x.2.2.2 HVD.out.1 (vers_nil _)
              go_wp2_with fail
              refine Calls.mono HME2.out ?_
              rintro e we ⟨u, rfl, hu⟩
              clear HME2
              rcases hu with ⟨hb, _⟩ | ⟨_, hm, _⟩ | ⟨_, m2, o4, n4, c4, r4, hm, rfl, hn4, hv4⟩
              · rw [(formedB_iff m').2 HMI.out.formed] at hb; cases hb
              · rw [mend_cut m' [] HMI.out.whole] at hm; cases hm
              obtain rfl : m2 = m' := by rw [mend_cut m' [] HMI.out.whole] at hm; cases hm; rfl
              have HSE : Hid (Calls Try.prog 22 #[.slice o4 n4 c4, .slice o1 n1 c1] we fun e w' => e = .returned (.bool true) ∧ Keeps no we w') := by
                have h := same_any we o4 n4 c4 o1 n1 c1 r4 r1 m2 m2 hn4 HN1.out HMI.out.fit HMI.out.fit hv4.vers (HVD.out.1.keepsN hv4.kp)
                rw [decide_eq_true rfl] at h
                exact h
              have HKE : Hid (Keeps no w we) := HVD.out.2.trans hv4.kp
              clear hm hn4 hv4
              go_wp2_with fail
              refine Calls.mono HSE.out ?_
              rintro e wf ⟨rfl, hkf⟩
              go_wp2_with fail
              go_ret
              exact ⟨rfl, HKE.out.trans hkf⟩
end Go.Proofs.Ytodblodbeobgeaa
