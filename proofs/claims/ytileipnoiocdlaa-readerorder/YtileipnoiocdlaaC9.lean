import Derived.Test.YtileipnoiocdlaaC8
/- The program's Mend: its walk. -/
namespace Go.Proofs.Ytileipnoiocdlaa
open Go.RowKit Go.Sort Orl
set_option linter.unusedVariables false
set_option linter.unusedSimpArgs false

/-- what Mend tells, each list of keys of the call's own -/
def MendO (w : World) (l got : List Ver) (u : Value) (w' : World) : Prop :=
  (formedB l = false ∧ u = .tuple #[.slice none 0 0, .int .i64 1] ∧ Keeps no w w') ∨ (formedB l = true ∧ mendV l got = none ∧ u = .tuple #[.slice none 0 0, .int .i64 110] ∧ Keeps no w w') ∨
  (formedB l = true ∧ ∃ m o n c rs, mendV l got = some m ∧ u = .tuple #[.slice o n c, .int .i64 0] ∧ n = m.length ∧ NewVo w o c rs m w')
/-- behind the loop over the wants -/
structure Lp1 (w2 wr : World) (vs : List Ver) (ws : List Wn) (M : Nat) : Prop where
  mp : ∃ L, IsMp KW Vi wr M L ∧ Ms vs ws L
  kp : Keeps no w2 wr
/-- in the loop that copies -/
structure Lp2 (w2 wr : World) (vs : List Ver) (n i M G : Nat) : Prop where
  mp : ∃ L, IsMp KW Vi wr M L ∧ Ms vs (needsV vs) L
  out : ∃ rs, NewVo w2 (some ⟨G, 0, none⟩) n rs (vs.take i ++ List.replicate (n - i) v0) wr
/-- in the loop over got -/
structure Lp3 (w2 wr : World) (vs gs : List Ver) (n j M G : Nat) : Prop where
  mp : ∃ L, IsMp KW Vi wr M L ∧ Mj vs gs j L
  out : ∃ rs, NewVo w2 (some ⟨G, 0, none⟩) n rs (vs.map (curA vs gs j)) wr
set_option maxRecDepth 10000 in
set_option maxHeartbeats 4000000 in
theorem pMendO_any (w : World) (o : Option Addr) (n c : Nat) (rs : List RV) (vs : List Ver) (og : Option Addr) (ng cg : Nat) (rg : List RV) (gs : List Ver) (hn : n = vs.length) (hng : ng = gs.length) (hf : FitL vs) (hfg : FitL gs) (hv : Vers w o c rs vs) (hg : Vers w og cg rg gs) :
    Calls Try.prog 52 #[.slice o n c, .slice og ng cg] w fun e w' => ∃ u, e = .returned u ∧ MendO w vs gs u w' := by
  have HN : Hid (n = vs.length) := hn
  have HNG : Hid (ng = gs.length) := hng
  have hA : (n : Int) ≤ 2199023255500 := by have := hf.len; omega
  have hAg : (ng : Int) ≤ 2199023255500 := by have := hfg.len; omega
  have HF : Hid (FitL vs) := hf
  have HFG : Hid (FitL gs) := hfg
  have HV : Hid (Vers w o c rs vs) := hv
  have HG : Hid (Vers w og cg rg gs) := hg
  have HND : Hid (Calls Try.prog 48 #[.slice o n c] w fun e w' => ∃ u, e = .returned u ∧ NeedTo w vs u w') := pNeeds_any w o n c rs vs hn hf hv
  clear hn hng hf hfg hv hg
  have hmm := makeWI
  go_enter Try.func52, Try.ntmps52
  go_wp2_with fail
  refine Calls.mono HND.out ?_
  rintro e w1 ⟨u, rfl, ⟨hF, rfl, hk⟩ | ⟨hF, o1, n1, c1, rfl, hn1, ho1, hnw, hk⟩⟩
  · have HK : Hid (Keeps no w w1 ∧ formedB vs = false) := ⟨hk, hF⟩
    clear hk hF HND
    go_wp2_with fail
    go_ret2
    exact ⟨_, rfl, .inl ⟨HK.out.2, rfl, HK.out.1⟩⟩
  have HFM : Hid (Formed vs ∧ formedB vs = true) := ⟨(formedB_iff vs).1 hF, hF⟩
  have hn1024 : (n : Int) ≤ 1024 := by have := HFM.out.1.most; have := HN.out; omega
  have H1 : Hid (n1 = (needsV vs).length ∧ Sl WE w1 o1 c1 (needsV vs) ∧ Keeps no w w1) := ⟨hn1, ho1.sl, hk⟩
  have hb1 : (n1 : Int) ≤ 1024 := by have := needs_len vs; have := HFM.out.1.most; omega
  have HPL : Hid (Calls Try.prog 66 #[.slice o n c] w1 fun e w' => ∃ b, e = .returned (.map (some b)) ∧ PlTo w1 vs b w') := places_any w1 o n c rs vs HN.out HF.out HFM.out.1.most (HV.out.keepsN hk)
  clear hk hF HND hn1 ho1 hnw
  go_wp2_with fail
  refine Calls.mono HPL.out ?_
  rintro e w2 ⟨A, rfl, hpl⟩
  obtain ⟨La, hA1, hA2, hA3, hA4⟩ := hpl
  have H2 : Hid (IsMp KT Vi w2 A La ∧ Pl vs vs.length La ∧ Keeps no w w2 ∧ Sl WE w2 o1 c1 (needsV vs)) := ⟨hA2, hA3, H1.out.2.2.trans hA4, H1.out.2.1.keepsN hA4⟩
  have HL1 : Hid (n1 = (needsV vs).length) := H1.out.1
  clear hA1 hA2 hA3 hA4 HPL H1
  obtain ⟨M, hM⟩ : ∃ M, M = w2.heap.size := ⟨_, rfl⟩
  have HM : Hid (M = w2.heap.size) := hM
  clear hM
  go_wp2_with fail
  rw [← HM.out]
  go_loopw [35] (fun s35 wr => ∃ j : Nat, j ≤ n1 ∧ s35 = .int .i64 j ∧ Hid (Lp1 w2 wr vs ((needsV vs).take j) M)) (fun s35 _ => n1 - (intOf s35).toNat)
  case atStart => exact ⟨0, by omega, rfl, ⟨[], by rw [HM.out]; exact isMp_made w2, Ms.nil vs⟩, (Keeps.refl _ _).alloc _⟩
  case round =>
    rename World => wr
    obtain ⟨j, hj, rfl, HT⟩ := hrel
    by_cases hlt : j < n1
    · have hlt' : (j : Int) < n1 := by omega
      have hjl : j < (needsV vs).length := by have := HL1.out; omega
      obtain ⟨b1, off1, hob, d0, d1⟩ := (H2.out.2.2.2.keepsN HT.out.kp).atW hjl
      subst hob
      have HS := take_succ_getD (needsV vs) j w0' hjl
      have hpm : (needsV vs).getD j w0' ∈ needsV vs := getD_mem_lt w0' hjl
      obtain ⟨a, ha1, ha2, ha3⟩ := want_at HFM.out.1 H2.out.2.1 hpm
      have HP : Hid (((needsV vs).getD j w0').1.size ≤ maxLen ∧ ((needsV vs).getD j w0').2 < 18446744073709551616 ∧ fnd ((needsV vs).getD j w0').1 La = some a ∧ a < vs.length ∧ (vs.getD a v0).key = ((needsV vs).getD j w0').1 ∧ (needsV vs).take (j + 1) = (needsV vs).take j ++ [(needsV vs).getD j w0']) := by
        refine ⟨by rw [← ha3]; exact Nat.le_trans (HF.out.at ha2).key maxLen_ge, ?_, ha1, ha2, ha3, HS⟩
        obtain ⟨y, hy, hlt, e⟩ := (needs_mem vs _).1 hpm
        rw [e]
        show mostV vs y < _
        rcases most_at vs y with h | ⟨x, hx, _, h⟩
        · rw [h]; exact (HF.out.each y hy).id
        · rw [← h]; exact (HF.out.each x hx).id
      clear HS hpm ha1 ha2 ha3 hjl
      generalize (needsV vs).getD j w0' = p at d0 d1 HP
      obtain ⟨s, i⟩ := p
      simp only at d0 d1 HP
      have HKA : Hid (Keeps no w2 (wr.alloc (.cells #[.string s, .int .u64 (i : Nat)] 50))) := HT.out.kp.alloc _
      have hlk := lookTI (H2.out.1.keepsN HKA.out) HP.out.1 HP.out.2.2.1
      obtain ⟨L, hL1, hL2⟩ := HT.out.mp
      have hLl : L.length < maxLen := by have := hL2.le; have h3 := List.length_take_le j (needsV vs); have := HL1.out; unfold maxLen; omega
      obtain ⟨w5, hrun, hM1, hK1, hS1⟩ := updWI (hL1.keepsN ((Keeps.refl no wr).alloc (.cells #[.string s, .int .u64 (i : Nat)] 50))) hLl HP.out.1 HP.out.2.1 a
      have H5 : Hid (Lp1 w2 w5 vs ((needsV vs).take (j + 1)) M) := by
        refine ⟨⟨_, hM1, ?_⟩, HKA.out.then hK1 (fun q hq => .inr (by rw [hq]; exact Nat.le_of_eq HM.out.symm))⟩
        rw [HP.out.2.2.2.2.2]
        exact hL2.snoc HFM.out.1 (s, i) HP.out.2.2.2.1 HP.out.2.2.2.2.1
      clear hL1 hL2 hLl hM1 hK1 hS1 HT HKA HP
      go_wp2_with fail
      go_roundw
      case rel => exact ⟨j + 1, by omega, by go_num, H5⟩
      case measure => simp [intOf]; omega
    · have hlt' : ¬ (j : Int) < n1 := by omega
      have H3 : Hid (Lp1 w2 wr vs (needsV vs) M) := by
        have h := HT.out
        rwa [List.take_of_length_le (by have := HL1.out; omega)] at h
      clear HT
      obtain ⟨i0, hi, hz0, hz1, hz2⟩ := info_parts infoV
      go_upto_region 11 with fail
      go_wp2_with (at_make; go_must (refine wpList_make_full _ rfl _ _ 40 rfl 0 46 i0 _ 4 Try.underlying40 hi hz0 hz1 .i64 .i64 _ _ n rfl rfl rfl rfl (by rw [hz2]; omega) (by unfold maxLen; omega) (Nat.zero_le _) ?_; intro w6 ho6 hg6))
      obtain ⟨G, hG⟩ : ∃ G, G = wr.heap.size := ⟨_, rfl⟩
      have H6 : Hid (Lp2 w2 w6 vs n 0 M G) := by
        have hk6 := keeps_of_grown0 hg6
        obtain ⟨L, hL1, hL2⟩ := H3.out.mp
        refine ⟨⟨L, hL1.keepsN hk6, hL2⟩, List.replicate n r0, ?_⟩
        have h := NewVo.made n H3.out.kp (by rw [← made_cells]; exact ho6) hk6
        rw [hG]
        simpa using h
      rw [← hG]
      clear hG ho6 hg6 H3 hi hz0 hz1 hz2
      go_loopw [51] (fun s51 wq => ∃ i : Nat, i ≤ n ∧ s51 = .int .i64 i ∧ Hid (Lp2 w2 wq vs n i M G)) (fun s51 _ => n - (intOf s51).toNat)
      case atStart => exact ⟨0, by omega, rfl, H6⟩
      case round =>
        clear H6
        rename World => wq
        obtain ⟨i, hi, rfl, HT⟩ := hrel
        by_cases hlt2 : i < n
        · have hlt2' : (i : Int) < n := by omega
          have hil : i < vs.length := by have := HN.out; omega
          obtain ⟨⟨L, hL1, hL2⟩, rs', hZ⟩ := HT.out
          have hKq : Keeps no w wq := H2.out.2.2.1.trans hZ.kp
          obtain ⟨b, off, r, hob, d0, d1, d2, d3, hver⟩ := (HV.out.keepsN hKq).agg hil
          subst hob
          obtain ⟨rk, ri, rv, ro, rn, rc⟩ := r
          simp only at d0 d1 d2 d3
          have HKA : Hid (Keeps no wq (wq.alloc (.cells #[.string rk, .int .u64 (ri : Nat), .string rv, .slice ro rn rc] 46))) := (Keeps.refl no wq).alloc _
          have HCP : Hid (Calls Try.prog 67 #[.agg #[.string rk, .int .u64 (ri : Nat), .string rv, .slice ro rn rc]] (wq.alloc (.cells #[.string rk, .int .u64 (ri : Nat), .string rv, .slice ro rn rc] 46)) fun e w' => ∃ u, e = .returned u ∧ GiveV (wq.alloc (.cells #[.string rk, .int .u64 (ri : Nat), .string rv, .slice ro rn rc] 46)) (vs.getD i v0) u w') := copy_any _ ⟨rk, ri, rv, ro, rn, rc⟩ (vs.getD i v0) (HF.out.at hil) (hver.keepsN HKA.out)
          have HZ : Hid (NewVo w2 (some ⟨G, 0, none⟩) n rs' (vs.take i ++ List.replicate (n - i) v0) wq ∧ IsMp KW Vi wq M L ∧ Ms vs (needsV vs) L) := ⟨hZ, hL1, hL2⟩
          clear hZ hL1 hL2 hver hKq HT
          go_wp2_with fail
          refine Calls.mono HCP.out ?_
          rintro e w5 ⟨_, rfl, o5, n5, c5, rfl, hn5, ho5, hnw5, hk5⟩
          have HK5 : Hid (Keeps no wq w5) := HKA.out.trans hk5
          obtain ⟨g, eg, hfz, ⟨r', c0, c1, c2, c3⟩, hZ5, hkG⟩ := HZ.out.1.copy i (by rw [take_rep_len vs n i HN.out hi]; exact hlt2) (vs.getD i v0) hn5.out ho5 (hnw5.of_le HKA.out.size) HK5.out
          have hgG : g = G := by cases eg; rfl
          subst g
          rw [take_set vs n i HN.out hlt2] at hZ5
          have HZ5 : Hid (Lp2 w2 (wset4 w5 G i ⟨(vs.getD i v0).key, (vs.getD i v0).id, (vs.getD i v0).val, o5, n5, c5⟩) vs n (i + 1) M G) := by
            refine ⟨⟨L, (HZ.out.2.1.keepsN HK5.out).keeps hkG ?_, HZ.out.2.2⟩, _, hZ5⟩
            exact mp_own (HZ.out.2.1.keepsN HK5.out) (HZ.out.1.keepsN HK5.out).own
          have f0 := hfz (i * 4)
          have f1 := hfz (i * 4 + 1)
          have f2 := hfz (i * 4 + 2)
          have f3 := hfz (i * 4 + 3)
          clear hZ5 hkG hfz eg hnw5 ho5 hk5 HCP HZ hn5 d0 d1 d2 d3 HKA
          generalize vs.getD i v0 = y at HZ5 ⊢
          go_wp2_with fail
          go_roundw
          case rel => exact ⟨i + 1, by omega, by go_num, HZ5⟩
          case measure => simp [intOf]; omega
        · have hlt2' : ¬ (i : Int) < n := by omega
          have H7 : Hid (Lp3 w2 wq vs gs n 0 M G) := by
            obtain ⟨⟨L, hL1, hL2⟩, rs', hZ⟩ := HT.out
            refine ⟨⟨L, hL1, Mj.zero gs HFM.out.1 hL2⟩, rs', ?_⟩
            rw [cur_zero]
            rw [show i = n by omega, Nat.sub_self, List.replicate_zero, List.append_nil, List.take_of_length_le (by have := HN.out; omega)] at hZ
            exact hZ
          clear HT
          go_wp2_with fail
          go_loopw [64] (fun s64 wp => ∃ k : Nat, k ≤ ng ∧ s64 = .int .i64 k ∧ Hid (Lp3 w2 wp vs gs n k M G)) (fun s64 _ => ng - (intOf s64).toNat)
          case atStart => exact ⟨0, by omega, rfl, H7⟩
          case round =>
            clear H7
            rename World => wp
            obtain ⟨k, hk, rfl, HT⟩ := hrel
            by_cases hlt3 : k < ng
            · have hlt3' : (k : Int) < ng := by omega
              have hkl : k < gs.length := by have := HNG.out; omega
              obtain ⟨⟨L, hL1, hL2⟩, rs', hZ⟩ := HT.out
              have hKq : Keeps no w wp := H2.out.2.2.1.trans hZ.kp
              obtain ⟨b, off, r, hob, d0, d1, d2, d3, hver⟩ := (HG.out.keepsN hKq).agg hkl
              subst hob
              have HE : Hid (r.key = (gs.getD k v0).key ∧ r.id = (gs.getD k v0).id ∧ r.val = (gs.getD k v0).val ∧ r.key.size ≤ maxLen ∧ r.id < 18446744073709551616) := ⟨hver.key, hver.id, hver.val, by rw [hver.key]; exact Nat.le_trans (HFG.out.at hkl).key maxLen_ge, by rw [hver.id]; exact (HFG.out.at hkl).id⟩
              have HVR : Hid (VerOf wp r (gs.getD k v0) ∧ FitV (gs.getD k v0) ∧ k < gs.length) := ⟨hver, HFG.out.at hkl, hkl⟩
              have HZ : Hid (NewVo w2 (some ⟨G, 0, none⟩) n rs' (vs.map (curA vs gs k)) wp ∧ IsMp KW Vi wp M L ∧ Mj vs gs k L) := ⟨hZ, hL1, hL2⟩
              clear hZ hL1 hL2 hver hKq HT hkl
              obtain ⟨rk, ri, rv, ro, rn, rc⟩ := r
              simp only at d0 d1 d2 d3 HE
              obtain ⟨W1, hW1⟩ : ∃ W, W = wp.alloc (.cells #[.string rk, .int .u64 (ri : Nat), .string rv, .slice ro rn rc] 46) := ⟨_, rfl⟩
              obtain ⟨W2, hW2⟩ : ∃ W, W = W1.alloc (.cells #[.string rk, .int .u64 (ri : Nat)] 50) := ⟨_, rfl⟩
              have HK2 : Hid (Keeps no wp W2 ∧ W2.heap[wp.heap.size]? = some (.cells #[.string rk, .int .u64 (ri : Nat), .string rv, .slice ro rn rc] 46 (0, 0)) ∧ W2.heap[wp.heap.size + 1]? = some (.cells #[.string rk, .int .u64 (ri : Nat)] 50 (0, 0))) := by
                subst hW2
                subst hW1
                refine ⟨((Keeps.refl no wp).alloc _).alloc _, blk_alloc (blk_new wp _) _, ?_⟩
                have h := blk_new (wp.alloc (.cells #[.string rk, .int .u64 (ri : Nat), .string rv, .slice ro rn rc] 46)) (.cells #[.string rk, .int .u64 (ri : Nat)] 50)
                have e : (wp.alloc (.cells #[.string rk, .int .u64 (ri : Nat), .string rv, .slice ro rn rc] 46)).heap.size = wp.heap.size + 1 := by simp
                rw [e] at h
                exact h
              cases hff : fnd (rk, ri) L with
              | none =>
                have hlk := look2WIn (HZ.out.2.1.keepsN HK2.out.1) HE.out.2.2.2.1 HE.out.2.2.2.2 hff
                have H8 : Hid (Lp3 w2 W2 vs gs n (k + 1) M G) := by
                  have h := HZ.out.2.2.skip HVR.out.2.2 (by rw [← HE.out.1, ← HE.out.2.1]; exact hff)
                  refine ⟨⟨L, HZ.out.2.1.keepsN HK2.out.1, h.1⟩, rs', ?_⟩
                  rw [h.2]
                  exact HZ.out.1.keepsN HK2.out.1
                rw [hW2, hW1] at hlk H8
                clear HZ HVR HE HK2 hff hW1 hW2
                go_wp2_with fail
                go_roundw
                case rel => exact ⟨k + 1, by omega, by go_num, H8⟩
                case measure => simp [intOf]; omega
              | some a =>
                have hlk := look2WI (HZ.out.2.1.keepsN HK2.out.1) HE.out.2.2.2.1 HE.out.2.2.2.2 hff
                rw [hW2, hW1] at hlk
                have HH : Hid (Mj vs gs (k + 1) (del (rk, ri) L) ∧ a < n ∧ vs.map (curA vs gs (k + 1)) = (vs.map (curA vs gs k)).set a (gs.getD k v0)) := by
                  have h := HZ.out.2.2.hit HFM.out.1 HVR.out.2.2 (by rw [← HE.out.1, ← HE.out.2.1]; exact hff)
                  rw [← HE.out.1, ← HE.out.2.1] at h
                  exact ⟨h.1, by rw [HN.out]; exact h.2.1, h.2.2⟩
                have ha' : (a : Int) < n := by have := HH.out.2.1; omega
                have HCP : Hid (Calls Try.prog 67 #[.agg #[.string rk, .int .u64 (ri : Nat), .string rv, .slice ro rn rc]] W2 fun e w' => ∃ u, e = .returned u ∧ GiveV W2 (gs.getD k v0) u w') := copy_any _ ⟨rk, ri, rv, ro, rn, rc⟩ (gs.getD k v0) HVR.out.2.1 (HVR.out.1.keepsN HK2.out.1)
                have HW : Hid (W2 = W1.alloc (.cells #[.string rk, .int .u64 (ri : Nat)] 50) ∧ W1 = wp.alloc (.cells #[.string rk, .int .u64 (ri : Nat), .string rv, .slice ro rn rc] 46)) := ⟨hW2, hW1⟩
                rw [hW2, hW1] at HCP
                clear hW1 hW2 hff
                go_wp2_with fail
                refine Calls.mono HCP.out ?_
                rintro e w5 ⟨_, rfl, o5, n5, c5, rfl, hn5, ho5, hnw5, hk5⟩
                rw [← HW.out.2, ← HW.out.1] at hnw5 hk5
                have HK5 : Hid (Keeps no wp w5) := HK2.out.1.trans hk5
                have HB5 : Hid (w5.heap[wp.heap.size + 1]? = some (.cells #[.string rk, .int .u64 (ri : Nat)] 50 (0, 0)) ∧ ¬ wp.heap.size + 1 = G) := by
                  refine ⟨hk5.at HK2.out.2.2 id, fun e => ?_⟩
                  have := HZ.out.1.own.lt G ⟨_, rfl, rfl⟩
                  omega
                obtain ⟨g, eg, hfz, ⟨r', c0, c1, c2, c3⟩, hZ5, hkG⟩ := HZ.out.1.copy a (by rw [List.length_map, ← HN.out]; exact HH.out.2.1) (gs.getD k v0) hn5.out ho5 (hnw5.of_le HK2.out.1.size) HK5.out
                have hgG : g = G := by cases eg; rfl
                subst g
                rw [← HH.out.2.2] at hZ5
                have HZ5 : Hid (NewVo w2 (some ⟨G, 0, none⟩) n (rs'.set a ⟨(gs.getD k v0).key, (gs.getD k v0).id, (gs.getD k v0).val, o5, n5, c5⟩) (vs.map (curA vs gs (k + 1))) (wset4 w5 G a ⟨(gs.getD k v0).key, (gs.getD k v0).id, (gs.getD k v0).val, o5, n5, c5⟩) ∧ IsMp KW Vi (wset4 w5 G a ⟨(gs.getD k v0).key, (gs.getD k v0).id, (gs.getD k v0).val, o5, n5, c5⟩) M L ∧ (wset4 w5 G a ⟨(gs.getD k v0).key, (gs.getD k v0).id, (gs.getD k v0).val, o5, n5, c5⟩).heap[wp.heap.size + 1]? = some (.cells #[.string rk, .int .u64 (ri : Nat)] 50 (0, 0))) := by
                  refine ⟨hZ5, (HZ.out.2.1.keepsN HK5.out).keeps hkG (mp_own (HZ.out.2.1.keepsN HK5.out) (HZ.out.1.keepsN HK5.out).own), hkG.at HB5.out.1 ?_⟩
                  rintro ⟨x, e, e2⟩
                  cases e
                  exact HB5.out.2 e2.symm
                have f0 := hfz (a * 4)
                have f1 := hfz (a * 4 + 1)
                have f2 := hfz (a * 4 + 2)
                have f3 := hfz (a * 4 + 3)
                clear hZ5 hkG hfz eg hnw5 ho5 hk5 HCP hn5 d0 d1 d2 d3 hlk HVR HK2 HW HB5
                generalize gs.getD k v0 = y at HZ5 ⊢
                go_upto_region 24 with fail
                have HZ6 : Hid (NewVo w2 (some ⟨G, 0, none⟩) n (rs'.set a ⟨y.key, y.id, y.val, o5, n5, c5⟩) (vs.map (curA vs gs (k + 1))) ((((w5.setCell ⟨G, a * 4, none⟩ (.string y.key)).setCell ⟨G, a * 4 + 1, none⟩ (.int .u64 (y.id : Nat))).setCell ⟨G, a * 4 + 2, none⟩ (.string y.val)).setCell ⟨G, a * 4 + 3, none⟩ (.slice o5 n5 c5)) ∧ IsMp KW Vi ((((w5.setCell ⟨G, a * 4, none⟩ (.string y.key)).setCell ⟨G, a * 4 + 1, none⟩ (.int .u64 (y.id : Nat))).setCell ⟨G, a * 4 + 2, none⟩ (.string y.val)).setCell ⟨G, a * 4 + 3, none⟩ (.slice o5 n5 c5)) M L ∧ ((((w5.setCell ⟨G, a * 4, none⟩ (.string y.key)).setCell ⟨G, a * 4 + 1, none⟩ (.int .u64 (y.id : Nat))).setCell ⟨G, a * 4 + 2, none⟩ (.string y.val)).setCell ⟨G, a * 4 + 3, none⟩ (.slice o5 n5 c5)).heap[wp.heap.size + 1]? = some (.cells #[.string rk, .int .u64 (ri : Nat)] 50 (0, 0))) := HZ5
                generalize ((((w5.setCell ⟨G, a * 4, none⟩ (.string y.key)).setCell ⟨G, a * 4 + 1, none⟩ (.int .u64 (y.id : Nat))).setCell ⟨G, a * 4 + 2, none⟩ (.string y.val)).setCell ⟨G, a * 4 + 3, none⟩ (.slice o5 n5 c5)) = w7 at HZ6 ⊢
                clear HZ5 c0 c1 c2 c3 f0 f1 f2 f3
                have x0 := cell_of_blk HZ6.out.2.2 0
                have x1 := cell_of_blk HZ6.out.2.2 1
                simp only [List.getElem?_toArray, List.getElem?_cons_succ, List.getElem?_cons_zero] at x0 x1
                obtain ⟨w8, hrun, hM8, hK8⟩ := remWI HZ6.out.2.1 HE.out.2.2.2.1 HE.out.2.2.2.2
                have H8 : Hid (Lp3 w2 w8 vs gs n (k + 1) M G) := ⟨⟨_, hM8, HH.out.1⟩, _, HZ6.out.1.mapped HZ6.out.2.1 (Nat.le_of_eq HM.out.symm) hK8⟩
                clear hM8 hK8 HZ6 HH HZ HE
                go_wp2_with fail
                go_roundw
                case rel => exact ⟨k + 1, by omega, by go_num, H8⟩
                case measure => simp [intOf]; omega
            · have hlt3' : ¬ (k : Int) < ng := by omega
              obtain ⟨⟨L, hL1, hL2⟩, rs', hZ⟩ := HT.out
              rw [show k = gs.length by have := HNG.out; omega] at hL2 hZ
              have hln := fun ty => hL1.len (t := 129) (e := 3) Try.underlying129 ty
              have hLb : L.length ≤ 1024 := hL2.le
              have HQ : Hid ((L.length = 0 → mendV vs gs = some (vs.map (curA vs gs gs.length))) ∧ (¬ L.length = 0 → mendV vs gs = none)) := ⟨fun h => hL2.done h, fun h => hL2.lack hL1.nk h⟩
              have HZ : Hid (NewVo w (some ⟨G, 0, none⟩) n rs' (vs.map (curA vs gs gs.length)) wp) := hZ.older H2.out.2.2.1
              clear hL1 hL2 hZ HT
              generalize L.length = l at hln HQ hLb
              by_cases h0 : l = 0
              · subst h0
                have HM2 : Hid (MendO w vs gs (.tuple #[.slice (some ⟨G, 0, none⟩) n n, .int .i64 0]) wp) := .inr (.inr ⟨HFM.out.2, _, _, _, _, _, HQ.out.1 rfl, rfl, by rw [List.length_map]; exact HN.out, HZ.out⟩)
                clear HQ HZ
                go_wp2_with fail
                go_ret2
                exact ⟨_, rfl, HM2.out⟩
              · have h1 : (0 : Int) < l := by omega
                have HM2 : Hid (MendO w vs gs (.tuple #[.slice none 0 0, .int .i64 110]) wp) := .inr (.inl ⟨HFM.out.2, HQ.out.2 h0, rfl, HZ.out.kp⟩)
                clear HQ HZ h0
                go_wp2_with fail
                go_ret2
                exact ⟨_, rfl, HM2.out⟩
theorem pMend_any (w : World) (o : Option Addr) (n c : Nat) (rs : List RV) (vs : List Ver) (og : Option Addr) (ng cg : Nat) (rg : List RV) (gs : List Ver) (hn : n = vs.length) (hng : ng = gs.length) (hf : FitL vs) (hfg : FitL gs) (hv : Vers w o c rs vs) (hg : Vers w og cg rg gs) :
    Calls Try.prog 52 #[.slice o n c, .slice og ng cg] w fun e w' => ∃ u, e = .returned u ∧ MendP w vs gs u w' :=
  (pMendO_any w o n c rs vs og ng cg rg gs hn hng hf hfg hv hg).mono fun e w' ⟨u, he, h⟩ => ⟨u, he, by
    rcases h with h | h | ⟨h1, m, o1, n1, c1, r1, h2, h3, h4, h5⟩
    · exact .inl h
    · exact .inr (.inl h)
    · exact .inr (.inr ⟨h1, m, o1, n1, c1, r1, h2, h3, h4, h5.z⟩)⟩
end Go.Proofs.Ytileipnoiocdlaa
