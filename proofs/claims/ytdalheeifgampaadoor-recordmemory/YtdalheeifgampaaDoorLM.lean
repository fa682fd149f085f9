/- RecordMemory: its walk. -/
import Derived.Test.YtdalheeifgampaaDoorM4
import Derived.Deep.RegionHeld3
import Derived.Deep.CutBlock
import Derived.Deep.RegionWith
namespace Go.Proofs.YtdalheeifgampaaDoor
open Go.RowKit Go.Sort Orl Pk
set_option linter.unusedVariables false
set_option linter.unusedSimpArgs false

set_option maxRecDepth 20000 in
set_option maxHeartbeats 40000000 in
theorem recordMemory_any (w : World) (cmt : Bool) (id : Nat) (oK : Option Addr) (nK cK sm : Nat) (val : Tx) (xs : List Tx) (hP : IsPl w id oK nK cK sm val xs) (cmt' : Bool) (id' : Nat) (oK' : Option Addr) (nK' cK' sm' : Nat) (val' : Tx) (xs' : List Tx) (hP' : IsPl w id' oK' nK' cK' sm' val' xs') (ht : TabIn w) :
    Calls Tryd.prog 7 #[.agg #[.bool cmt, .int .u64 (id : Nat), .slice oK nK cK, .int .u64 (sm : Nat), .string val], .agg #[.bool cmt', .int .u64 (id' : Nat), .slice oK' nK' cK', .int .u64 (sm' : Nat), .string val']] w fun e w' => e = .returned (.bool true) ∧ Keeps no w w' := by
  have HP : Hid (IsPl w id oK nK cK sm val xs) := hP
  have HP2 : Hid (IsPl w id' oK' nK' cK' sm' val' xs') := hP'
  clear hP hP'
  have hk0 : Keeps no w ((w.alloc (.cells #[.bool cmt, .int .u64 (id : Nat), .slice oK nK cK, .int .u64 (sm : Nat), .string val] 25)).alloc (.cells #[.bool cmt', .int .u64 (id' : Nat), .slice oK' nK' cK', .int .u64 (sm' : Nat), .string val'] 25)) := ((Keeps.refl _ _).alloc _).alloc _
  go_enter Tryd.func7, Tryd.ntmps7
  go_wp2_with fail
  refine (alive_any _ (ht.keepsN hk0)).mono ?_
  rintro e w1 ⟨rfl, hk1⟩
  have hb1 := hk1.at (blk_alloc (blk_new w (.cells #[.bool cmt, .int .u64 (id : Nat), .slice oK nK cK, .int .u64 (sm : Nat), .string val] 25)) (.cells #[.bool cmt', .int .u64 (id' : Nat), .slice oK' nK' cK', .int .u64 (sm' : Nat), .string val'] 25)) (fun h => h)
  have HB2 : Hid (w1.heap[w.heap.size + 1]? = some (.cells #[.bool cmt', .int .u64 (id' : Nat), .slice oK' nK' cK', .int .u64 (sm' : Nat), .string val'] 25 (0, 0))) := hk1.at (blk_new2 w _ _) (fun h => h)
  obtain ⟨x0, x1, x2, x3, x4⟩ := cells5 hb1
  have HK1 : Hid (Keeps no w w1) := hk0.trans hk1
  clear hb1 hk0 hk1
  go_wp2_with fail
  refine (made_of (HP.out.keepsN HK1.out)).mono ?_
  rintro e w2 ⟨k, i, op, np, cp, ok, nk, ck, r, rfl, HG, hk2⟩
  have HR : Hid (may r = true ∧ r.id < 18446744073709551616 ∧ (body r).length ≤ 100000) := ⟨HG.out.2.1, HG.out.1.fit.id, HG.out.2.2⟩
  have HV : Hid (VarL w2.heap.size ⟨k, i, op, np, cp, ok, nk, ck⟩ r (w2.heap.size + 1) (w2.alloc (.cells #[.int .i64 k, .int .u64 (i : Nat), .slice op np cp, .slice ok nk ck] 30))) :=
    ⟨blk_new w2 _, HG.out.1.isC.keepsN ((Keeps.refl _ _).alloc _), fun x hx => Nat.lt_succ_of_lt (HG.out.1.lt x hx), Nat.lt_succ_self _⟩
  have HK2 : Hid (Keeps no w (w2.alloc (.cells #[.int .i64 k, .int .u64 (i : Nat), .slice op np cp, .slice ok nk ck] 30))) := (HK1.out.trans hk2).alloc _
  have hb2 := (hk2.alloc (.cells #[.int .i64 k, .int .u64 (i : Nat), .slice op np cp, .slice ok nk ck] 30)).at HB2.out (fun h => h)
  clear x0 x1 x2 x3 x4 hk2 HK1 HP HG HB2
  go_upto_region 4 with fail
  generalize w2.alloc (.cells #[.int .i64 k, .int .u64 (i : Nat), .slice op np cp, .slice ok nk ck] 30) = W at HV HK2 hb2 ⊢
  generalize w2.heap.size = D at HV ⊢
  generalize (⟨k, i, op, np, cp, ok, nk, ck⟩ : CV) = vr at HV
  obtain ⟨y0, y1, y2, y3, y4⟩ := cells5 hb2
  clear hb2
  go_wp2_with fail
  refine (made_of (HP2.out.keepsN HK2.out)).mono ?_
  rintro e w3 ⟨k', i', op', np', cp', ok', nk', ck', s, rfl, HG, hk3⟩
  have HS : Hid (may s = true ∧ s.id < 18446744073709551616 ∧ (body s).length ≤ 100000) := ⟨HG.out.2.1, HG.out.1.fit.id, HG.out.2.2⟩
  have HVs : Hid (VarL w3.heap.size ⟨k', i', op', np', cp', ok', nk', ck'⟩ s (w3.heap.size + 1) (w3.alloc (.cells #[.int .i64 k', .int .u64 (i' : Nat), .slice op' np' cp', .slice ok' nk' ck'] 30))) :=
    ⟨blk_new w3 _, HG.out.1.isC.keepsN ((Keeps.refl _ _).alloc _), fun x hx => Nat.lt_succ_of_lt (HG.out.1.lt x hx), Nat.lt_succ_self _⟩
  have HVr : Hid (VarL D vr r (w3.heap.size + 1) (w3.alloc (.cells #[.int .i64 k', .int .u64 (i' : Nat), .slice op' np' cp', .slice ok' nk' ck'] 30))) := (HV.out.keepsN (hk3.alloc _)).le (by have := lt_of_block HV.out.b; have := hk3.size; omega)
  have HK3 : Hid (Keeps no w (w3.alloc (.cells #[.int .i64 k', .int .u64 (i' : Nat), .slice op' np' cp', .slice ok' nk' ck'] 30))) := (HK2.out.trans hk3).alloc _
  have HLO : Hid (w3.heap.size + 1 = (w3.alloc (.cells #[.int .i64 k', .int .u64 (i' : Nat), .slice op' np' cp', .slice ok' nk' ck'] 30)).heap.size ∧ w.heap.size ≤ w3.heap.size) := ⟨by simp, by have := HK2.out.size; have := hk3.size; omega⟩
  clear y0 y1 y2 y3 y4 hk3 HK2 HP2 HG HV
  go_upto_region 5 with fail
  generalize w3.alloc (.cells #[.int .i64 k', .int .u64 (i' : Nat), .slice op' np' cp', .slice ok' nk' ck'] 30) = W3 at HVr HVs HK3 HLO ⊢
  generalize w3.heap.size = D' at HVr HVs HLO ⊢
  generalize (⟨k', i', op', np', cp', ok', nk', ck'⟩ : CV) = vs at HVs
  obtain ⟨lo, hlo⟩ : ∃ lo, lo = D' + 1 := ⟨_, rfl⟩
  rw [← hlo] at HVr HVs HLO
  have HLW : Hid (w.heap.size ≤ lo) := by have := HLO.out; show _ ≤ _; omega
  clear hlo
  obtain ⟨z0, z1, z2, z3⟩ := cells4 HVr.out.b
  go_wp2_with fail
  refine (Build_any W3 vr.k vr.i vr.op vr.np vr.cp vr.ok vr.nk vr.ck r HVr.out.c (ht.keepsN HK3.out)).mono ?_
  rintro e w4 ⟨oA, n, cA, rfl, hn, hownA, hnewA, hk4⟩
  obtain ⟨he, hbb⟩ := encE_ok HR.out.1 (by have := HR.out.2.2; omega)
  have HBB : Hid (encE r = 0 ∧ encB r = enc r) := ⟨he, hbb⟩
  rw [hbb] at hn hownA
  rw [he]
  obtain ⟨gA, rfl⟩ := owns_some' hownA (enc_ne r)
  have HA4 : Hid (Owns w4 (some ⟨gA, 0, none⟩) cA (enc r)) := hownA
  have HGA : Hid (lo ≤ gA ∧ gA < w4.heap.size) := ⟨by have := hnewA gA ⟨_, rfl, rfl⟩; have := HLO.out; omega, hownA.lt gA ⟨_, rfl, rfl⟩⟩
  have hnb : (n : Int) ≤ 100008 := by have := hn.out; rw [enc_length] at this; have := HR.out.2.2; omega
  have hn0 : 0 < n := by have := hn.out; rw [enc_length] at this; omega
  have HK4 : Hid (Keeps no W3 w4) := hk4
  clear z0 z1 z2 z3 hk4 hnewA hownA he hbb
  obtain ⟨z0, z1, z2, z3⟩ := cells4 (HVs.out.keepsN HK4.out).b
  go_wp2_with fail
  refine (Build_any w4 vs.k vs.i vs.op vs.np vs.cp vs.ok vs.nk vs.ck s (HVs.out.keepsN HK4.out).c (ht.keepsN (HK3.out.trans HK4.out))).mono ?_
  rintro e w5 ⟨oC, m, cC, rfl, hm, hownC, hnewC, hk5⟩
  obtain ⟨he, hbb⟩ := encE_ok HS.out.1 (by have := HS.out.2.2; omega)
  rw [hbb] at hm hownC
  rw [he]
  obtain ⟨gC, rfl⟩ := owns_some' hownC (enc_ne s)
  have HC5 : Hid (Owns w5 (some ⟨gC, 0, none⟩) cC (enc s)) := hownC
  have HGC : Hid (gA < gC ∧ gC < w5.heap.size) := ⟨by have := hnewC gC ⟨_, rfl, rfl⟩; have := HGA.out; omega, hownC.lt gC ⟨_, rfl, rfl⟩⟩
  have hmb : (m : Int) ≤ 100008 := by have := hm.out; rw [enc_length] at this; have := HS.out.2.2; omega
  have hm0 : 0 < m := by have := hm.out; rw [enc_length] at this; omega
  have HK5 : Hid (Keeps no w4 w5) := hk5
  clear z0 z1 z2 z3 hk5 hnewC hownC he hbb
  obtain ⟨z0, z1, z2, z3⟩ := cells4 (HVr.out.keepsN (HK4.out.trans HK5.out)).b
  go_wp2_with fail
  refine (Build_any w5 vr.k vr.i vr.op vr.np vr.cp vr.ok vr.nk vr.ck r (HVr.out.keepsN (HK4.out.trans HK5.out)).c (ht.keepsN (HK3.out.trans (HK4.out.trans HK5.out)))).mono ?_
  rintro e w6 ⟨oB, n6, cB, rfl, hn6, hownB, hnewB, hk6⟩
  rw [HBB.out.2] at hn6 hownB
  rw [HBB.out.1]
  obtain ⟨gB, rfl⟩ := owns_some' hownB (enc_ne r)
  have e6 : n6 = n := by rw [hn6.out, hn.out]
  clear hn6
  subst n6
  have HB6 : Hid (Owns w6 (some ⟨gB, 0, none⟩) cB (enc r)) := hownB
  have HGB : Hid (gC < gB ∧ gB < w6.heap.size) := ⟨by have := hnewB gB ⟨_, rfl, rfl⟩; have := HGC.out; omega, hownB.lt gB ⟨_, rfl, rfl⟩⟩
  have HA6 : Hid (Owns w6 (some ⟨gA, 0, none⟩) cA (enc r)) := HA4.out.keeps (HK5.out.trans hk6) (fun _ _ h => h)
  have HC6 : Hid (Owns w6 (some ⟨gC, 0, none⟩) cC (enc s)) := HC5.out.keeps hk6 (fun _ _ h => h)
  have HK6 : Hid (Keeps no w w6) := HK3.out.trans (HK4.out.trans (HK5.out.trans hk6))
  have HR6 : Hid (VarL D vr r lo w6) := HVr.out.keepsN (HK4.out.trans (HK5.out.trans hk6))
  have HS6 : Hid (VarL D' vs s lo w6) := HVs.out.keepsN (HK4.out.trans (HK5.out.trans hk6))
  clear z0 z1 z2 z3 hk6 hnewB hownB HA4 HC5 HVr HVs HK4 HK5 HK3 HLO
  go_wp2_with fail
  refine (same_bytes w6 (some ⟨gA, 0, none⟩) n cA (some ⟨gB, 0, none⟩) n cB (enc r) (enc r) hn.out hn.out (HA6.out.row (enc_byt r) (by have := hn.out; omega)) (HB6.out.row (enc_byt r) (by have := hn.out; omega))).mono ?_
  rw [decide_eq_true rfl]
  rintro e w' ⟨rfl, hw'⟩
  subst w'
  go_wp2_with fail
  refine (own_any w6 (some ⟨gA, 0, none⟩) n cA (enc r) hn.out (by omega) (HA6.out.bsl (enc_byt r) (by have := hn.out; omega))).mono ?_
  rintro e w7 ⟨o7, n7, c7, rfl, hn7, hown7, hnew7, hk7⟩
  have e7 : n7 = n := by rw [hn7.out, hn.out]
  clear hn7
  subst n7
  have H7 : Hid (Hf w6 o7 c7 (enc r) w7) := ⟨hown7, hnew7, hk7⟩
  have HC7 : Hid (BRow w7 (some ⟨gC, 0, none⟩) (enc s)) := (HC6.out.keeps hk7 (fun _ _ h => h)).row (enc_byt s) (by have := hm.out; omega)
  have HXN : Hid (enc r ++ enc s ≠ []) := fun e => enc_ne r (List.append_eq_nil_iff.1 e).1
  clear hown7 hnew7 hk7
  go_wp2_with (at_builtin; go_must (refine wpList_appB rfl _ _ rfl o7 n c7 (enc r) rfl hn.out H7.out.own (some ⟨gC, 0, none⟩) m cC (enc s) rfl hm.out (fun e => by cases e) HC7.out (by omega) ?_); intro o8 cF w8 ho hfr hk; have H8 : Hid (Hf w6 o8 cF (enc r ++ enc s) w8) := H7.out.app ho hfr hk; obtain ⟨gF, rfl⟩ := owns_some' ho HXN.out; clear ho hfr hk)
  obtain ⟨N, hN⟩ : ∃ N, N = n + m := ⟨_, rfl⟩
  rw [← hN]
  have HNN : Hid (N = n + m) := hN
  have HNX : Hid (N = (enc r ++ enc s).length) := by show _ = _; rw [hN, List.length_append, ← hn.out, ← hm.out]
  have hNb : (N : Int) ≤ 200016 := by omega
  clear hN H7 HC7
  have HXB : Hid (∀ x ∈ enc r ++ enc s, x < 256) := app_lt (enc_byt r) (enc_byt s)
  have HRUN := two_run HR.out HS.out
  have HRU : Hid (Run (enc r ++ enc s) [r, s] N ∧ (parse ((enc r ++ enc s).drop N)).2.2 ≠ 0) := by
    have e : (enc r).length + (enc s).length = N := by rw [HNX.out, List.length_append]
    rw [e] at HRUN; exact HRUN
  have HPA : Hid (parse (enc r ++ enc s) = (r, (enc r).length, 0)) := parse_enc r HR.out.1 HR.out.2.1 (by have := HR.out.2.2; omega) (sum_body r) (enc s)
  have HXT : Hid ((enc r ++ enc s).take n = enc r) := by show _ = _; rw [hn.out, List.take_left]
  clear HRUN
  generalize enc r ++ enc s = X at H8 HXN HNX HXB HRU HPA HXT
  have HGF : Hid (gB < gF ∧ gF < w8.heap.size) := ⟨by have := H8.out.new gF ⟨_, rfl, rfl⟩; have := HGB.out; omega, H8.out.own.lt gF ⟨_, rfl, rfl⟩⟩
  refine (own_any w8 (some ⟨gF, 0, none⟩) N cF X HNX.out (by omega) (H8.out.own.bsl HXB.out (by have := HNX.out; omega))).mono ?_
  rintro e w9 ⟨oG, n9, cG, rfl, hn9, hown9, hnew9, hk9⟩
  have e9 : n9 = N := by rw [hn9.out, HNX.out]
  clear hn9
  subst n9
  obtain ⟨gK, rfl⟩ := owns_some' hown9 HXN.out
  obtain ⟨hi, hhi⟩ : ∃ hi, hi = w8.heap.size := ⟨_, rfl⟩
  have HGK : Hid (hi ≤ gK ∧ gK < w9.heap.size ∧ hi ≤ w9.heap.size ∧ lo ≤ gF ∧ gF < hi ∧ gB < hi ∧ gB < gF) := ⟨by have := hnew9 gK ⟨_, rfl, rfl⟩; omega, hown9.lt gK ⟨_, rfl, rfl⟩, by have := hk9.size; omega, by have := HGF.out; have := HGB.out; have := HGC.out; have := HGA.out; omega, by have := HGF.out; omega, by have := HGF.out; omega, HGF.out.1⟩
  have HKP : Hid (BSl w9 (some ⟨gK, 0, none⟩) cG X) := hown9.bsl HXB.out (by have := HNX.out; omega)
  have HF9 : Hid (Owns w9 (some ⟨gF, 0, none⟩) cF X) := H8.out.own.keeps hk9 (fun _ _ h => h)
  have HK69 : Hid (Keeps no w6 w9) := H8.out.kp.trans hk9
  clear hhi hown9 hnew9 hk9 H8
  go_wp2_with fail
  refine (Scan_any w9 (some ⟨gF, 0, none⟩) N cF X HNX.out (by omega) (HF9.out.bsl HXB.out (by have := HNX.out; omega)) (ht.keepsN (HK6.out.trans HK69.out))).mono ?_
  rintro e wl ⟨ol, nl, cl, t, L, rs, rfl, HSC, hnl, htl, hkl⟩
  obtain ⟨hrs, htt⟩ := HSC.out.2.2.1.one (e := 0) (e' := 0) HRU.out.1 HSC.out.2.2.2 HRU.out.2
  subst hrs
  subst t
  obtain rfl : nl = 2 := HSC.out.2.1
  obtain ⟨l0, l1, rfl⟩ := len_two HSC.out.1.len
  obtain ⟨gl, rfl⟩ := own_some HSC.out.1.own (by simp)
  have HL : Hid (Scn w9 wl (some ⟨gl, 0, none⟩) cl [l0, l1] [r, s]) := HSC.out.1
  have HKL : Hid (Keeps no w9 wl) := hkl
  clear HSC hnl htl hkl
  go_wp2_with fail
  refine (Scan_any wl (some ⟨gF, 0, none⟩) N cF X HNX.out (by omega) ((HF9.out.keeps HKL.out (fun _ _ h => h)).bsl HXB.out (by have := HNX.out; omega)) (ht.keepsN ((HK6.out.trans HK69.out).trans HKL.out))).mono ?_
  rintro e wm ⟨om, nm, cm, t', M, rs, rfl, HSC, hnl, htl, hkm⟩
  obtain ⟨hrs, htt⟩ := HSC.out.2.2.1.one (e := 0) (e' := 0) HRU.out.1 HSC.out.2.2.2 HRU.out.2
  subst hrs
  subst t'
  obtain rfl : nm = 2 := HSC.out.2.1
  obtain ⟨m0, m1, rfl⟩ := len_two HSC.out.1.len
  obtain ⟨gm, rfl⟩ := own_some HSC.out.1.own (by simp)
  have HM : Hid (Scn wl wm (some ⟨gm, 0, none⟩) cm [m0, m1] [r, s]) := HSC.out.1
  have HKM : Hid (Keeps no w9 wm) := HKL.out.trans hkm
  have HKLM : Hid (Keeps no wl wm) := hkm
  clear HSC hnl htl hkm
  go_wp2_with fail
  refine (Parse_any wm (some ⟨gF, 0, none⟩) N cF X HNX.out (by omega) ((HF9.out.keeps HKM.out (fun _ _ h => h)).bsl HXB.out (by have := HNX.out; omega)) (ht.keepsN ((HK6.out.trans HK69.out).trans HKM.out))).mono ?_
  rintro e wp ⟨k1, i1, op1, np1, cp1, ok1, nk1, ck1, M1, E1, rfl, HPP, hM1, hE1, hkp⟩
  have hP1 := HPP.out
  rw [HPA.out, ← hn.out] at hP1
  obtain ⟨hG1, hMe, rfl⟩ := hP1
  subst M1
  have HGP : Hid (Got wm (wp.alloc (.cells #[.int .i64 k1, .int .u64 (i1 : Nat), .slice op1 np1 cp1, .slice ok1 nk1 ck1] 30)) ⟨k1, i1, op1, np1, cp1, ok1, nk1, ck1⟩ r) := hG1.keepsN ((Keeps.refl _ _).alloc _)
  have HBP : Hid (CBlk wp.heap.size ⟨k1, i1, op1, np1, cp1, ok1, nk1, ck1⟩ (wp.alloc (.cells #[.int .i64 k1, .int .u64 (i1 : Nat), .slice op1 np1 cp1, .slice ok1 nk1 ck1] 30))) := blk_new wp _
  have HKQ : Hid (Keeps no wm (wp.alloc (.cells #[.int .i64 k1, .int .u64 (i1 : Nat), .slice op1 np1 cp1, .slice ok1 nk1 ck1] 30))) := hkp.alloc _
  have HPD : Hid (wm.heap.size ≤ wp.heap.size) := hkp.size
  clear hG1 HPP hM1 hE1 hkp
  go_upto_region 15 with fail
  generalize wp.alloc (.cells #[.int .i64 k1, .int .u64 (i1 : Nat), .slice op1 np1 cp1, .slice ok1 nk1 ck1] 30) = wq at HGP HBP HKQ ⊢
  generalize wp.heap.size = P at HBP HPD ⊢
  generalize (⟨k1, i1, op1, np1, cp1, ok1, nk1, ck1⟩ : CV) = vp at HGP HBP
  go_wp2_with fail
  refine (Parse_any wq (some ⟨gF, 0, none⟩) N cF X HNX.out (by omega) ((HF9.out.keeps (HKM.out.trans HKQ.out) (fun _ _ h => h)).bsl HXB.out (by have := HNX.out; omega)) (ht.keepsN ((HK6.out.trans HK69.out).trans (HKM.out.trans HKQ.out)))).mono ?_
  rintro e wz ⟨k1, i1, op1, np1, cp1, ok1, nk1, ck1, M1, E1, rfl, HPP, hM1, hE1, hkz⟩
  have hP1 := HPP.out
  rw [HPA.out, ← hn.out] at hP1
  obtain ⟨hG1, hMe, rfl⟩ := hP1
  subst M1
  have HGQ : Hid (Got wq (wz.alloc (.cells #[.int .i64 k1, .int .u64 (i1 : Nat), .slice op1 np1 cp1, .slice ok1 nk1 ck1] 30)) ⟨k1, i1, op1, np1, cp1, ok1, nk1, ck1⟩ r) := hG1.keepsN ((Keeps.refl _ _).alloc _)
  have HBQ : Hid (CBlk wz.heap.size ⟨k1, i1, op1, np1, cp1, ok1, nk1, ck1⟩ (wz.alloc (.cells #[.int .i64 k1, .int .u64 (i1 : Nat), .slice op1 np1 cp1, .slice ok1 nk1 ck1] 30))) := blk_new wz _
  have HKZ : Hid (Keeps no wq (wz.alloc (.cells #[.int .i64 k1, .int .u64 (i1 : Nat), .slice op1 np1 cp1, .slice ok1 nk1 ck1] 30))) := hkz.alloc _
  have HQD : Hid (wq.heap.size ≤ wz.heap.size) := hkz.size
  clear hG1 HPP hM1 hE1 hkz
  go_upto_block 0 with fail
  generalize wz.alloc (.cells #[.int .i64 k1, .int .u64 (i1 : Nat), .slice op1 np1 cp1, .slice ok1 nk1 ck1] 30) = Z at HGQ HBQ HKZ ⊢
  generalize wz.heap.size = Q at HBQ HQD ⊢
  generalize (⟨k1, i1, op1, np1, cp1, ok1, nk1, ck1⟩ : CV) = vq at HGQ HBQ
  have HALL : Hid (All w lo hi D vr r D' vs s gK cG X w9 (some ⟨gl, 0, none⟩) cl [l0, l1] wl (some ⟨gm, 0, none⟩) cm [m0, m1] wm P vp wq Q vq Z) := by
    have g := HGK.out
    have s1 := HKL.out.size
    have s2 := HKLM.out.size
    have s3 := HKQ.out.size
    have s4 := HKZ.out.size
    have s5 := HPD.out
    have s6 := HQD.out
    have kz : Keeps no w9 Z := (HKM.out.trans HKQ.out).trans HKZ.out
    exact ⟨(HK6.out.trans HK69.out).trans kz, HLW.out, HR6.out.keepsN (HK69.out.trans kz), HS6.out.keepsN (HK69.out.trans kz), HKP.out.keeps kz (fun _ _ h => h), g.1, (HL.out.keepsN (HKLM.out.trans (HKQ.out.trans HKZ.out))), ⟨g.2.2.1, g.2.1⟩, HM.out.keepsN (HKQ.out.trans HKZ.out), fun x hx => by
        rcases hx with h | h
        · exact (HL.out.each 0 (by simp)).lt x h
        · exact (HL.out.each 1 (by simp)).lt x h, s1, HGP.out.keepsN HKZ.out, fun x hx => by
        rcases hx with h | h
        · exact (HM.out.each 0 (by simp)).lt x h
        · exact (HM.out.each 1 (by simp)).lt x h, s2, HKZ.out.at HBP.out (fun h => h), by omega, HGQ.out, HGP.out.lt, s3, HBQ.out, by omega⟩
  have HABC : Hid (Abc lo hi gA cA gC cC gB cB n m 0 0 0 Z) := by
    have kz : Keeps no w6 Z := HK69.out.trans ((HKM.out.trans HKQ.out).trans HKZ.out)
    exact ⟨Ov.start (HA6.out.keeps kz (fun _ _ h => h)) hn.out.symm, Ov.start (HC6.out.keeps kz (fun _ _ h => h)) hm.out.symm, Ov.start (HB6.out.keeps kz (fun _ _ h => h)) hn.out.symm, HGA.out.1, HGC.out.1, HGB.out.1, HGK.out.2.2.2.2.2.1⟩
  have HFZ : Hid (Ov Z gF cF N 238 0) := Ov.start (HF9.out.keeps ((HKM.out.trans HKQ.out).trans HKZ.out) (fun _ _ h => h)) HNX.out.symm
  clear HA6 HC6 HB6 HR6 HS6 HK69 HK6 HGP HGQ HBP HBQ HL HM HF9 HKP HKL HKLM HKM HKQ HKZ HPD HQD HPA
  go_cut [25] from 112 to 120 (fun _ wc => Keeps (eqA gF) Z wc)
  case first =>
    as_aux_lemma =>
    go_wp2_with fail
    go_loopw [25] (fun j wr => ∃ q : Nat, j = .int .i64 (q : Nat) ∧ q ≤ N ∧ Hid (Ov wr gF cF N 238 q ∧ Keeps (eqA gF) Z wr)) (fun j _ => N - (intOf j).toNat)
    case atStart => exact ⟨0, rfl, by omega, HFZ.out, Keeps.refl _ _⟩
    case round =>
      rename World => wr
      obtain ⟨q, rfl, hq, HQ⟩ := hrel
      by_cases hqn : q < N
      · have hqn' : (q : Int) < (N : Int) := by omega
        obtain ⟨⟨u, hu⟩, fz⟩ := HQ.out.1.cell hqn
        have HQ2 : Hid (Ov (wr.setCell ⟨gF, q, none⟩ (.int .u8 238)) gF cF N 238 (q + 1) ∧ Keeps (eqA gF) Z (wr.setCell ⟨gF, q, none⟩ (.int .u8 238))) := ⟨HQ.out.1.set hqn, HQ.out.2.setA q _⟩
        go_wp2_with fail
        go_roundw
        case rel => exact ⟨q + 1, by go_num, by omega, HQ2⟩
        case measure => simp [intOf]; omega
      · have hqn' : ¬ (q : Int) < (N : Int) := by omega
        go_wp2_with fail
        go_meet
        case rel => exact HQ.out.2
  case rest =>
  rename World => Z1
  have HALL1 : Hid (All w lo hi D vr r D' vs s gK cG X w9 (some ⟨gl, 0, none⟩) cl [l0, l1] wl (some ⟨gm, 0, none⟩) cm [m0, m1] wm P vp wq Q vq Z1) := HALL.out.keeps hcut (fun x hx => by unfold eqA at hx; have := HGK.out; omega)
  have HABC1 : Hid (Abc lo hi gA cA gC cC gB cB n m 0 0 0 Z1) := HABC.out.keeps hcut (fun x hx => by unfold eqA at hx; have := HGK.out; omega)
  clear hcut HALL HABC HFZ
  go_upto_region 20 with fail
  go_cut [186] from 121 to 186 (fun v wc => v = .bool false ∧ All w lo hi D vr r D' vs s gK cG X w9 (some ⟨gl, 0, none⟩) cl [l0, l1] wl (some ⟨gm, 0, none⟩) cm [m0, m1] wm P vp wq Q vq wc ∧ Abc lo hi gA cA gC cC gB cB n m 0 0 0 wc)
  case first =>
    as_aux_lemma =>
    have HCELL : Hid (∀ w', Keeps no Z1 w' → w'.cell? ⟨gl, 0, none⟩ = some (.int .i64 l0.k) ∧ w'.cell? ⟨gl, 1, none⟩ = some (.int .u64 (l0.i : Nat)) ∧ w'.cell? ⟨gl, 2, none⟩ = some (.slice l0.op l0.np l0.cp) ∧ w'.cell? ⟨gl, 3, none⟩ = some (.slice l0.ok l0.nk l0.ck) ∧ w'.cell? ⟨gl, 4, none⟩ = some (.int .i64 l1.k) ∧ w'.cell? ⟨gl, 5, none⟩ = some (.int .u64 (l1.i : Nat)) ∧ w'.cell? ⟨gl, 6, none⟩ = some (.slice l1.op l1.np l1.cp) ∧ w'.cell? ⟨gl, 7, none⟩ = some (.slice l1.ok l1.nk l1.ck) ∧ w'.cell? ⟨gm, 0, none⟩ = some (.int .i64 m0.k) ∧ w'.cell? ⟨gm, 1, none⟩ = some (.int .u64 (m0.i : Nat)) ∧ w'.cell? ⟨gm, 2, none⟩ = some (.slice m0.op m0.np m0.cp) ∧ w'.cell? ⟨gm, 3, none⟩ = some (.slice m0.ok m0.nk m0.ck) ∧ w'.cell? ⟨gm, 4, none⟩ = some (.int .i64 m1.k) ∧ w'.cell? ⟨gm, 5, none⟩ = some (.int .u64 (m1.i : Nat)) ∧ w'.cell? ⟨gm, 6, none⟩ = some (.slice m1.op m1.np m1.cp) ∧ w'.cell? ⟨gm, 7, none⟩ = some (.slice m1.ok m1.nk m1.ck) ∧ w'.cell? ⟨P, 0, none⟩ = some (.int .i64 vp.k) ∧ w'.cell? ⟨P, 1, none⟩ = some (.int .u64 (vp.i : Nat)) ∧ w'.cell? ⟨P, 2, none⟩ = some (.slice vp.op vp.np vp.cp) ∧ w'.cell? ⟨P, 3, none⟩ = some (.slice vp.ok vp.nk vp.ck) ∧ w'.cell? ⟨Q, 0, none⟩ = some (.int .i64 vq.k) ∧ w'.cell? ⟨Q, 1, none⟩ = some (.int .u64 (vq.i : Nat)) ∧ w'.cell? ⟨Q, 2, none⟩ = some (.slice vq.op vq.np vq.cp) ∧ w'.cell? ⟨Q, 3, none⟩ = some (.slice vq.ok vq.nk vq.ck) ∧ w'.cell? ⟨D, 0, none⟩ = some (.int .i64 vr.k) ∧ w'.cell? ⟨D, 1, none⟩ = some (.int .u64 (vr.i : Nat)) ∧ w'.cell? ⟨D, 2, none⟩ = some (.slice vr.op vr.np vr.cp) ∧ w'.cell? ⟨D, 3, none⟩ = some (.slice vr.ok vr.nk vr.ck) ∧ w'.cell? ⟨D', 0, none⟩ = some (.int .i64 vs.k) ∧ w'.cell? ⟨D', 1, none⟩ = some (.int .u64 (vs.i : Nat)) ∧ w'.cell? ⟨D', 2, none⟩ = some (.slice vs.op vs.np vs.cp) ∧ w'.cell? ⟨D', 3, none⟩ = some (.slice vs.ok vs.nk vs.ck)) := by
      intro w' hk
      have h := HALL1.out.keepsN hk
      have a := two_cells h.l.own
      have b := two_cells h.m.own
      have c := cells4 h.pb
      have d := cells4 h.qb
      have e := cells4 h.vr.b
      have f := cells4 h.vs.b
      exact ⟨a.1, a.2.1, a.2.2.1, a.2.2.2.1, a.2.2.2.2.1, a.2.2.2.2.2.1, a.2.2.2.2.2.2.1, a.2.2.2.2.2.2.2, b.1, b.2.1, b.2.2.1, b.2.2.2.1, b.2.2.2.2.1, b.2.2.2.2.2.1, b.2.2.2.2.2.2.1, b.2.2.2.2.2.2.2, c.1, c.2.1, c.2.2.1, c.2.2.2, d.1, d.2.1, d.2.2.1, d.2.2.2, e.1, e.2.1, e.2.2.1, e.2.2.2, f⟩
    have HIS : Hid (∀ w', Keeps no Z1 w' → IsC w' l0 r ∧ IsC w' l1 s ∧ IsC w' m0 r ∧ IsC w' m1 s ∧ IsC w' vp r ∧ IsC w' vq r ∧ IsC w' vr r ∧ IsC w' vs s) := by
      intro w' hk
      have h := HALL1.out.keepsN hk
      exact ⟨(h.l.each 0 (by simp)).isC, (h.l.each 1 (by simp)).isC, (h.m.each 0 (by simp)).isC, (h.m.each 1 (by simp)).isC, h.p.isC, h.q.isC, h.vr.c, h.vs.c⟩
    simp only [List.append_eq, List.cons_append, List.nil_append]
    go_region_held3 (fun w' => w'.cell? ⟨gl, 0, none⟩ = some (.int .i64 l0.k) ∧ w'.cell? ⟨gl, 1, none⟩ = some (.int .u64 (l0.i : Nat)) ∧ w'.cell? ⟨gl, 2, none⟩ = some (.slice l0.op l0.np l0.cp) ∧ w'.cell? ⟨gl, 3, none⟩ = some (.slice l0.ok l0.nk l0.ck) ∧ w'.cell? ⟨gl, 4, none⟩ = some (.int .i64 l1.k) ∧ w'.cell? ⟨gl, 5, none⟩ = some (.int .u64 (l1.i : Nat)) ∧ w'.cell? ⟨gl, 6, none⟩ = some (.slice l1.op l1.np l1.cp) ∧ w'.cell? ⟨gl, 7, none⟩ = some (.slice l1.ok l1.nk l1.ck) ∧ w'.cell? ⟨gm, 0, none⟩ = some (.int .i64 m0.k) ∧ w'.cell? ⟨gm, 1, none⟩ = some (.int .u64 (m0.i : Nat)) ∧ w'.cell? ⟨gm, 2, none⟩ = some (.slice m0.op m0.np m0.cp) ∧ w'.cell? ⟨gm, 3, none⟩ = some (.slice m0.ok m0.nk m0.ck) ∧ w'.cell? ⟨gm, 4, none⟩ = some (.int .i64 m1.k) ∧ w'.cell? ⟨gm, 5, none⟩ = some (.int .u64 (m1.i : Nat)) ∧ w'.cell? ⟨gm, 6, none⟩ = some (.slice m1.op m1.np m1.cp) ∧ w'.cell? ⟨gm, 7, none⟩ = some (.slice m1.ok m1.nk m1.ck) ∧ w'.cell? ⟨P, 0, none⟩ = some (.int .i64 vp.k) ∧ w'.cell? ⟨P, 1, none⟩ = some (.int .u64 (vp.i : Nat)) ∧ w'.cell? ⟨P, 2, none⟩ = some (.slice vp.op vp.np vp.cp) ∧ w'.cell? ⟨P, 3, none⟩ = some (.slice vp.ok vp.nk vp.ck) ∧ w'.cell? ⟨Q, 0, none⟩ = some (.int .i64 vq.k) ∧ w'.cell? ⟨Q, 1, none⟩ = some (.int .u64 (vq.i : Nat)) ∧ w'.cell? ⟨Q, 2, none⟩ = some (.slice vq.op vq.np vq.cp) ∧ w'.cell? ⟨Q, 3, none⟩ = some (.slice vq.ok vq.nk vq.ck) ∧ w'.cell? ⟨D, 0, none⟩ = some (.int .i64 vr.k) ∧ w'.cell? ⟨D, 1, none⟩ = some (.int .u64 (vr.i : Nat)) ∧ w'.cell? ⟨D, 2, none⟩ = some (.slice vr.op vr.np vr.cp) ∧ w'.cell? ⟨D, 3, none⟩ = some (.slice vr.ok vr.nk vr.ck) ∧ w'.cell? ⟨D', 0, none⟩ = some (.int .i64 vs.k) ∧ w'.cell? ⟨D', 1, none⟩ = some (.int .u64 (vs.i : Nat)) ∧ w'.cell? ⟨D', 2, none⟩ = some (.slice vs.op vs.np vs.cp) ∧ w'.cell? ⟨D', 3, none⟩ = some (.slice vs.ok vs.nk vs.ck)) (first | exact HCELL.out _ K6.out | exact HCELL.out _ K5.out | exact HCELL.out _ K4.out | exact HCELL.out _ K3.out | exact HCELL.out _ K2.out | exact HCELL.out _ K1.out | exact HCELL.out _ ((Keeps.refl no Z1).drew) | exact HCELL.out _ (Keeps.refl no Z1)) ((first | (go_at_call 15; refine (sameR_any _ vq.k vq.i vq.op vq.np vq.cp vq.ok vq.nk vq.ck r (HIS.out _ K5.out).2.2.2.2.2.1 vr.k vr.i vr.op vr.np vr.cp vr.ok vr.nk vr.ck r (HIS.out _ K5.out).2.2.2.2.2.2.1).mono ?_; rintro e u6 ⟨⟨B1, rfl, hB1⟩, hk⟩; have hB1t : B1 = true := hB1.out.2 rfl; subst hB1t; have K6 : Hid (Keeps no Z1 u6) := K5.out.trans hk; clear hB1 hk) | (go_at_call 15; refine (sameR_any _ vp.k vp.i vp.op vp.np vp.cp vp.ok vp.nk vp.ck r (HIS.out _ K4.out).2.2.2.2.1 vr.k vr.i vr.op vr.np vr.cp vr.ok vr.nk vr.ck r (HIS.out _ K4.out).2.2.2.2.2.2.1).mono ?_; rintro e u5 ⟨⟨B1, rfl, hB1⟩, hk⟩; have hB1t : B1 = true := hB1.out.2 rfl; subst hB1t; have K5 : Hid (Keeps no Z1 u5) := K4.out.trans hk; clear hB1 hk) | (go_at_call 15; refine (sameR_any _ m1.k m1.i m1.op m1.np m1.cp m1.ok m1.nk m1.ck s (HIS.out _ K3.out).2.2.2.1 vs.k vs.i vs.op vs.np vs.cp vs.ok vs.nk vs.ck s (HIS.out _ K3.out).2.2.2.2.2.2.2).mono ?_; rintro e u4 ⟨⟨B1, rfl, hB1⟩, hk⟩; have hB1t : B1 = true := hB1.out.2 rfl; subst hB1t; have K4 : Hid (Keeps no Z1 u4) := K3.out.trans hk; clear hB1 hk) | (go_at_call 15; refine (sameR_any _ m0.k m0.i m0.op m0.np m0.cp m0.ok m0.nk m0.ck r (HIS.out _ K2.out).2.2.1 vr.k vr.i vr.op vr.np vr.cp vr.ok vr.nk vr.ck r (HIS.out _ K2.out).2.2.2.2.2.2.1).mono ?_; rintro e u3 ⟨⟨B1, rfl, hB1⟩, hk⟩; have hB1t : B1 = true := hB1.out.2 rfl; subst hB1t; have K3 : Hid (Keeps no Z1 u3) := K2.out.trans hk; clear hB1 hk) | (go_at_call 15; refine (sameR_any _ l1.k l1.i l1.op l1.np l1.cp l1.ok l1.nk l1.ck s (HIS.out _ K1.out).2.1 vs.k vs.i vs.op vs.np vs.cp vs.ok vs.nk vs.ck s (HIS.out _ K1.out).2.2.2.2.2.2.2).mono ?_; rintro e u2 ⟨⟨B1, rfl, hB1⟩, hk⟩; have hB1t : B1 = true := hB1.out.2 rfl; subst hB1t; have K2 : Hid (Keeps no Z1 u2) := K1.out.trans hk; clear hB1 hk) | (go_at_call 15; refine (sameR_any _ l0.k l0.i l0.op l0.np l0.cp l0.ok l0.nk l0.ck r (HIS.out _ ((Keeps.refl no Z1).drew)).1 vr.k vr.i vr.op vr.np vr.cp vr.ok vr.nk vr.ck r (HIS.out _ ((Keeps.refl no Z1).drew)).2.2.2.2.2.2.1).mono ?_; rintro e u1 ⟨⟨B1, rfl, hB1⟩, hk⟩; have hB1t : B1 = true := hB1.out.2 rfl; subst hB1t; have K1 : Hid (Keeps no Z1 u1) := ((Keeps.refl no Z1).drew).trans hk; clear hB1 hk)))
    rename _ ∧ _ => hh
    clear hh HCELL HIS
    go_wp2_with fail
    go_meet
    case rel => exact ⟨rfl, HALL1.out.keepsN K6.out, HABC1.out.keepsN K6.out⟩
  case rest =>
  rename World => u6
  obtain ⟨rfl, hcA, hcB⟩ := hcut
  have HALL2 : Hid (All w lo hi D vr r D' vs s gK cG X w9 (some ⟨gl, 0, none⟩) cl [l0, l1] wl (some ⟨gm, 0, none⟩) cm [m0, m1] wm P vp wq Q vq u6) := hcA
  have HABC2 : Hid (Abc lo hi gA cA gC cC gB cB n m 0 0 0 u6) := hcB
  clear hcA hcB HALL1 HABC1
  go_upto_block 2 with fail
  go_cut [26] from 187 to 195 (fun _ wc => All w lo hi D vr r D' vs s gK cG X w9 (some ⟨gl, 0, none⟩) cl [l0, l1] wl (some ⟨gm, 0, none⟩) cm [m0, m1] wm P vp wq Q vq wc ∧ Abc lo hi gA cA gC cC gB cB n m n 0 0 wc)
  case first =>
    as_aux_lemma =>
    go_wp2_with fail
    go_loopw [26] (fun j wr => ∃ q : Nat, j = .int .i64 (q : Nat) ∧ q ≤ n ∧ Hid (All w lo hi D vr r D' vs s gK cG X w9 (some ⟨gl, 0, none⟩) cl [l0, l1] wl (some ⟨gm, 0, none⟩) cm [m0, m1] wm P vp wq Q vq wr ∧ Abc lo hi gA cA gC cC gB cB n m q 0 0 wr)) (fun j _ => n - (intOf j).toNat)
    case atStart => exact ⟨0, rfl, by omega, HALL2.out, HABC2.out⟩
    case round =>
      rename World => wr
      clear HALL2 HABC2
      obtain ⟨q, rfl, hq, HQ⟩ := hrel
      by_cases hqn : q < n
      · have hqn' : (q : Int) < (n : Int) := by omega
        obtain ⟨⟨u, hu⟩, fz⟩ := HQ.out.2.a.cell hqn
        have HQ2 : Hid (All w lo hi D vr r D' vs s gK cG X w9 (some ⟨gl, 0, none⟩) cl [l0, l1] wl (some ⟨gm, 0, none⟩) cm [m0, m1] wm P vp wq Q vq (wr.setCell ⟨gA, q, none⟩ (.int .u8 1)) ∧ Abc lo hi gA cA gC cC gB cB n m (q + 1) 0 0 (wr.setCell ⟨gA, q, none⟩ (.int .u8 1))) := ⟨HQ.out.1.keeps ((Keeps.refl (eqA gA) wr).setA q _) (fun x hx => by unfold eqA at hx; have h1 := HQ.out.2.la; have h2 := HQ.out.2.ac; have h3 := HQ.out.2.cb; have h4 := HQ.out.2.bh; omega), HQ.out.2.setA hqn⟩
        go_wp2_with fail
        go_roundw
        case rel => exact ⟨q + 1, by go_num, by omega, HQ2⟩
        case measure => simp [intOf]; omega
      · have hqn' : ¬ (q : Int) < (n : Int) := by omega
        have hqe : q = n := by omega
        subst q
        go_wp2_with fail
        go_meet
        case rel => exact HQ.out
  case rest =>
  rename World => Z2
  have HALL2' : Hid (All w lo hi D vr r D' vs s gK cG X w9 (some ⟨gl, 0, none⟩) cl [l0, l1] wl (some ⟨gm, 0, none⟩) cm [m0, m1] wm P vp wq Q vq Z2) := hcut.1
  have HABC2' : Hid (Abc lo hi gA cA gC cC gB cB n m n 0 0 Z2) := hcut.2
  clear hcut HALL2 HABC2
  go_upto_block 4 with fail
  go_cut [27] from 196 to 204 (fun _ wc => All w lo hi D vr r D' vs s gK cG X w9 (some ⟨gl, 0, none⟩) cl [l0, l1] wl (some ⟨gm, 0, none⟩) cm [m0, m1] wm P vp wq Q vq wc ∧ Abc lo hi gA cA gC cC gB cB n m n n 0 wc)
  case first =>
    as_aux_lemma =>
    go_wp2_with fail
    go_loopw [27] (fun j wr => ∃ q : Nat, j = .int .i64 (q : Nat) ∧ q ≤ n ∧ Hid (All w lo hi D vr r D' vs s gK cG X w9 (some ⟨gl, 0, none⟩) cl [l0, l1] wl (some ⟨gm, 0, none⟩) cm [m0, m1] wm P vp wq Q vq wr ∧ Abc lo hi gA cA gC cC gB cB n m n q 0 wr)) (fun j _ => n - (intOf j).toNat)
    case atStart => exact ⟨0, rfl, by omega, HALL2'.out, HABC2'.out⟩
    case round =>
      rename World => wr
      clear HALL2' HABC2'
      obtain ⟨q, rfl, hq, HQ⟩ := hrel
      by_cases hqn : q < n
      · have hqn' : (q : Int) < (n : Int) := by omega
        obtain ⟨⟨u, hu⟩, fz⟩ := HQ.out.2.b.cell hqn
        have HQ2 : Hid (All w lo hi D vr r D' vs s gK cG X w9 (some ⟨gl, 0, none⟩) cl [l0, l1] wl (some ⟨gm, 0, none⟩) cm [m0, m1] wm P vp wq Q vq (wr.setCell ⟨gB, q, none⟩ (.int .u8 2)) ∧ Abc lo hi gA cA gC cC gB cB n m n (q + 1) 0 (wr.setCell ⟨gB, q, none⟩ (.int .u8 2))) := ⟨HQ.out.1.keeps ((Keeps.refl (eqA gB) wr).setA q _) (fun x hx => by unfold eqA at hx; have h1 := HQ.out.2.la; have h2 := HQ.out.2.ac; have h3 := HQ.out.2.cb; have h4 := HQ.out.2.bh; omega), HQ.out.2.setB hqn⟩
        go_wp2_with fail
        go_roundw
        case rel => exact ⟨q + 1, by go_num, by omega, HQ2⟩
        case measure => simp [intOf]; omega
      · have hqn' : ¬ (q : Int) < (n : Int) := by omega
        have hqe : q = n := by omega
        subst q
        go_wp2_with fail
        go_meet
        case rel => exact HQ.out
  case rest =>
  rename World => Z3
  have HALL2'' : Hid (All w lo hi D vr r D' vs s gK cG X w9 (some ⟨gl, 0, none⟩) cl [l0, l1] wl (some ⟨gm, 0, none⟩) cm [m0, m1] wm P vp wq Q vq Z3) := hcut.1
  have HABC2'' : Hid (Abc lo hi gA cA gC cC gB cB n m n n 0 Z3) := hcut.2
  clear hcut HALL2' HABC2'
  go_upto_block 6 with fail
  go_cut [28] from 205 to 213 (fun _ wc => All w lo hi D vr r D' vs s gK cG X w9 (some ⟨gl, 0, none⟩) cl [l0, l1] wl (some ⟨gm, 0, none⟩) cm [m0, m1] wm P vp wq Q vq wc ∧ Abc lo hi gA cA gC cC gB cB n m n n m wc)
  case first =>
    as_aux_lemma =>
    go_wp2_with fail
    go_loopw [28] (fun j wr => ∃ q : Nat, j = .int .i64 (q : Nat) ∧ q ≤ m ∧ Hid (All w lo hi D vr r D' vs s gK cG X w9 (some ⟨gl, 0, none⟩) cl [l0, l1] wl (some ⟨gm, 0, none⟩) cm [m0, m1] wm P vp wq Q vq wr ∧ Abc lo hi gA cA gC cC gB cB n m n n q wr)) (fun j _ => m - (intOf j).toNat)
    case atStart => exact ⟨0, rfl, by omega, HALL2''.out, HABC2''.out⟩
    case round =>
      rename World => wr
      clear HALL2'' HABC2''
      obtain ⟨q, rfl, hq, HQ⟩ := hrel
      by_cases hqn : q < m
      · have hqn' : (q : Int) < (m : Int) := by omega
        obtain ⟨⟨u, hu⟩, fz⟩ := HQ.out.2.c.cell hqn
        have HQ2 : Hid (All w lo hi D vr r D' vs s gK cG X w9 (some ⟨gl, 0, none⟩) cl [l0, l1] wl (some ⟨gm, 0, none⟩) cm [m0, m1] wm P vp wq Q vq (wr.setCell ⟨gC, q, none⟩ (.int .u8 3)) ∧ Abc lo hi gA cA gC cC gB cB n m n n (q + 1) (wr.setCell ⟨gC, q, none⟩ (.int .u8 3))) := ⟨HQ.out.1.keeps ((Keeps.refl (eqA gC) wr).setA q _) (fun x hx => by unfold eqA at hx; have h1 := HQ.out.2.la; have h2 := HQ.out.2.ac; have h3 := HQ.out.2.cb; have h4 := HQ.out.2.bh; omega), HQ.out.2.setC hqn⟩
        go_wp2_with fail
        go_roundw
        case rel => exact ⟨q + 1, by go_num, by omega, HQ2⟩
        case measure => simp [intOf]; omega
      · have hqn' : ¬ (q : Int) < (m : Int) := by omega
        have hqe : q = m := by omega
        subst q
        go_wp2_with fail
        go_meet
        case rel => exact HQ.out
  case rest =>
  rename World => Z4
  have HALL2''' : Hid (All w lo hi D vr r D' vs s gK cG X w9 (some ⟨gl, 0, none⟩) cl [l0, l1] wl (some ⟨gm, 0, none⟩) cm [m0, m1] wm P vp wq Q vq Z4) := hcut.1
  have HABC2''' : Hid (Abc lo hi gA cA gC cC gB cB n m n n m Z4) := hcut.2
  clear hcut HALL2'' HABC2''
  go_upto_region 34 with fail
  obtain ⟨na, hna⟩ : ∃ na, n = na + 1 := ⟨n - 1, by omega⟩
  obtain ⟨ma, hma⟩ : ∃ ma, m = ma + 1 := ⟨m - 1, by omega⟩
  subst hna hma
  have HLA : Hid (∃ xa, Lo BE Z4 (some ⟨gA, 0, none⟩) xa (some ⟨gA, 0, none⟩) cA [] Z4 ∧ xa.length = na + 1 ∧ ∀ j, j < na + 1 → xa.getD j 0 = 1) := by
    obtain ⟨xa, a1, a2, a3⟩ := HABC2'''.out.a
    exact ⟨xa, Lo.start ((ownB_iff _ _ _ _).2 a1), a2, a3⟩
  have HLB : Hid (∃ xa, Lo BE Z4 (some ⟨gB, 0, none⟩) xa (some ⟨gB, 0, none⟩) cB [] Z4 ∧ xa.length = na + 1 ∧ ∀ j, j < na + 1 → xa.getD j 0 = 2) := by
    obtain ⟨xa, a1, a2, a3⟩ := HABC2'''.out.b
    exact ⟨xa, Lo.start ((ownB_iff _ _ _ _).2 a1), a2, a3⟩
  have HLC : Hid (∃ xa, Lo BE Z4 (some ⟨gC, 0, none⟩) xa (some ⟨gC, 0, none⟩) cC [] Z4 ∧ xa.length = ma + 1 ∧ ∀ j, j < ma + 1 → xa.getD j 0 = 3) := by
    obtain ⟨xa, a1, a2, a3⟩ := HABC2'''.out.c
    exact ⟨xa, Lo.start ((ownB_iff _ _ _ _).2 a1), a2, a3⟩
  have HLT : Hid ((gA < Z4.heap.size ∧ gB < Z4.heap.size ∧ gC < Z4.heap.size) ∧ (gB ≠ gA ∧ gC ≠ gA ∧ gA ≠ gB ∧ gC ≠ gB ∧ gA ≠ gC ∧ gB ≠ gC) ∧ (lo ≤ gA ∧ lo ≤ gB ∧ lo ≤ gC) ∧ gA < hi ∧ gB < hi ∧ gC < hi) := by
    have h1 := HABC2'''.out.ac
    have h2 := HABC2'''.out.cb
    have h3 := HABC2'''.out.la
    have h4 := HABC2'''.out.bh
    exact ⟨⟨HABC2'''.out.a.lt, HABC2'''.out.b.lt, HABC2'''.out.c.lt⟩, ⟨by omega, by omega, by omega, by omega, by omega, by omega⟩, ⟨by omega, by omega, by omega⟩, by omega, by omega, by omega⟩
  obtain ⟨xa, ha⟩ := HLA.out
  obtain ⟨xb, hb⟩ := HLB.out
  obtain ⟨xc, hc⟩ := HLC.out
  clear HLA HLB HLC HABC2'''
  have HLA : Hid (Lo BE Z4 (some ⟨gA, 0, none⟩) xa (some ⟨gA, 0, none⟩) cA [] Z4) := ha.1
  have HLB : Hid (Lo BE Z4 (some ⟨gB, 0, none⟩) xb (some ⟨gB, 0, none⟩) cB [] Z4) := hb.1
  have HLC : Hid (Lo BE Z4 (some ⟨gC, 0, none⟩) xc (some ⟨gC, 0, none⟩) cC [] Z4) := hc.1
  have HXS : Hid (xa.length = na + 1 ∧ xb.length = na + 1 ∧ xc.length = ma + 1 ∧ (∀ j, j < na + 1 → xa.getD j 0 = 1) ∧ (∀ j, j < na + 1 → xb.getD j 0 = 2) ∧ ∀ j, j < ma + 1 → xc.getD j 0 = 3) := ⟨ha.2.1, hb.2.1, hc.2.1, ha.2.2, hb.2.2, hc.2.2⟩
  have HBD : Hid (∀ (l : List Nat) (u : Nat), l.length ≤ 100008 → ((l ++ []).length + [u, u, u].length) * BE.nb ≤ 140737488355328 ∧ (l ++ []).length + [u, u, u].length ≤ 140737488355328) := by
    intro l u h
    constructor <;> simp [BE] <;> omega
  have HLE : Hid (xa.length ≤ 100008 ∧ xb.length ≤ 100008 ∧ xc.length ≤ 100008) := by have := HXS.out; exact ⟨by omega, by omega, by omega⟩
  have HNE : Hid (∀ (l : List Nat) (u : Nat), l ++ [] ++ [u, u, u] ≠ []) := fun l u => by simp
  clear ha hb hc
  have HKA : Hid (Keeps no Z4 (Z4.alloc (.cells #[.int .u8 7, .int .u8 7, .int .u8 7] 5))) := (Keeps.refl _ _).alloc _
  have HRW : Hid (Row BE (Z4.alloc (.cells #[.int .u8 7, .int .u8 7, .int .u8 7] 5)) (some ⟨Z4.heap.size, 0, none⟩) [7, 7, 7]) := row3 Z4 7
  have HSZ : Hid (Z4.heap.size ≤ (Z4.alloc (.cells #[.int .u8 7, .int .u8 7, .int .u8 7] 5)).heap.size) := by have h1 := HKA.out.size; exact h1
  have HNL : Hid (na + 1 = (xa ++ []).length) := by show _ = _; rw [List.append_nil]; exact HXS.out.1.symm
  go_upto_region 35 with (at_builtin; go_must (refine wpList_app okB rfl _ _ rfl (some ⟨gA, 0, none⟩) (na + 1) cA (xa ++ []) rfl HNL.out (HLA.out.keepsN HKA.out).own (some ⟨Z4.heap.size, 0, none⟩) 3 3 [7, 7, 7] rfl rfl (fun e => by cases e) HRW.out (HBD.out _ 7 HLE.out.1).1 (HBD.out _ 7 HLE.out.1).2 ?_); intro o1 cY1 Y1 ho hap; obtain ⟨gY1, rfl⟩ := own_some ho (HNE.out _ _); have HLAY1 : Hid (Lo BE Z4 (some ⟨gA, 0, none⟩) xa (some ⟨gY1, 0, none⟩) cY1 [7, 7, 7] Y1) := (HLA.out.keepsN HKA.out).app HSZ.out ho hap; have HLBY1 : Hid (Lo BE Z4 (some ⟨gB, 0, none⟩) xb (some ⟨gB, 0, none⟩) cB [] Y1) := (HLB.out.keepsN HKA.out).setO hap HLT.out.2.1.1 HLT.out.1.1; have HLCY1 : Hid (Lo BE Z4 (some ⟨gC, 0, none⟩) xc (some ⟨gC, 0, none⟩) cC [] Y1) := (HLC.out.keepsN HKA.out).setO hap HLT.out.2.1.2.1 HLT.out.1.1; have HALLY1 : Hid (All w lo hi D vr r D' vs s gK cG X w9 (some ⟨gl, 0, none⟩) cl [l0, l1] wl (some ⟨gm, 0, none⟩) cm [m0, m1] wm P vp wq Q vq Y1) := (HALL2'''.out.keepsN HKA.out).ap hap HLT.out.2.2.1.1 HLT.out.2.2.2.1; have HZY1 : Hid (Z4.heap.size ≤ Y1.heap.size) := Nat.le_trans HSZ.out hap.kO.size; clear ho hap)
  clear HKA HRW HSZ HNL HALL2''' HLA HLB HLC
  have HKA : Hid (Keeps no Y1 (Y1.alloc (.cells #[.int .u8 8, .int .u8 8, .int .u8 8] 5))) := (Keeps.refl _ _).alloc _
  have HRW : Hid (Row BE (Y1.alloc (.cells #[.int .u8 8, .int .u8 8, .int .u8 8] 5)) (some ⟨Y1.heap.size, 0, none⟩) [8, 8, 8]) := row3 Y1 8
  have HSZ : Hid (Z4.heap.size ≤ (Y1.alloc (.cells #[.int .u8 8, .int .u8 8, .int .u8 8] 5)).heap.size) := by have h1 := HKA.out.size; have h2 := HZY1.out; exact Nat.le_trans h2 h1
  have HNL : Hid (na + 1 = (xb ++ []).length) := by show _ = _; rw [List.append_nil]; exact HXS.out.2.1.symm
  go_upto_region 36 with (at_builtin; go_must (refine wpList_app okB rfl _ _ rfl (some ⟨gB, 0, none⟩) (na + 1) cB (xb ++ []) rfl HNL.out (HLBY1.out.keepsN HKA.out).own (some ⟨Y1.heap.size, 0, none⟩) 3 3 [8, 8, 8] rfl rfl (fun e => by cases e) HRW.out (HBD.out _ 8 HLE.out.2.1).1 (HBD.out _ 8 HLE.out.2.1).2 ?_); intro o1 cY2 Y2 ho hap; obtain ⟨gY2, rfl⟩ := own_some ho (HNE.out _ _); have HLBY2 : Hid (Lo BE Z4 (some ⟨gB, 0, none⟩) xb (some ⟨gY2, 0, none⟩) cY2 [8, 8, 8] Y2) := (HLBY1.out.keepsN HKA.out).app HSZ.out ho hap; have HLAY2 : Hid (Lo BE Z4 (some ⟨gA, 0, none⟩) xa (some ⟨gY1, 0, none⟩) cY1 [7, 7, 7] Y2) := (HLAY1.out.keepsN HKA.out).setO hap HLT.out.2.1.2.2.1 HLT.out.1.2.1; have HLCY2 : Hid (Lo BE Z4 (some ⟨gC, 0, none⟩) xc (some ⟨gC, 0, none⟩) cC [] Y2) := (HLCY1.out.keepsN HKA.out).setO hap HLT.out.2.1.2.2.2.1 HLT.out.1.2.1; have HALLY2 : Hid (All w lo hi D vr r D' vs s gK cG X w9 (some ⟨gl, 0, none⟩) cl [l0, l1] wl (some ⟨gm, 0, none⟩) cm [m0, m1] wm P vp wq Q vq Y2) := (HALLY1.out.keepsN HKA.out).ap hap HLT.out.2.2.1.2.1 HLT.out.2.2.2.2.1; have HZY2 : Hid (Z4.heap.size ≤ Y2.heap.size) := Nat.le_trans HSZ.out hap.kO.size; clear ho hap)
  clear HKA HRW HSZ HNL HALLY1 HLBY1 HLAY1 HLCY1
  have HKA : Hid (Keeps no Y2 (Y2.alloc (.cells #[.int .u8 9, .int .u8 9, .int .u8 9] 5))) := (Keeps.refl _ _).alloc _
  have HRW : Hid (Row BE (Y2.alloc (.cells #[.int .u8 9, .int .u8 9, .int .u8 9] 5)) (some ⟨Y2.heap.size, 0, none⟩) [9, 9, 9]) := row3 Y2 9
  have HSZ : Hid (Z4.heap.size ≤ (Y2.alloc (.cells #[.int .u8 9, .int .u8 9, .int .u8 9] 5)).heap.size) := by have h1 := HKA.out.size; have h2 := HZY2.out; exact Nat.le_trans h2 h1
  have HNL : Hid (ma + 1 = (xc ++ []).length) := by show _ = _; rw [List.append_nil]; exact HXS.out.2.2.1.symm
  go_upto_region 37 with (at_builtin; go_must (refine wpList_app okB rfl _ _ rfl (some ⟨gC, 0, none⟩) (ma + 1) cC (xc ++ []) rfl HNL.out (HLCY2.out.keepsN HKA.out).own (some ⟨Y2.heap.size, 0, none⟩) 3 3 [9, 9, 9] rfl rfl (fun e => by cases e) HRW.out (HBD.out _ 9 HLE.out.2.2).1 (HBD.out _ 9 HLE.out.2.2).2 ?_); intro o1 cY3 Y3 ho hap; obtain ⟨gY3, rfl⟩ := own_some ho (HNE.out _ _); have HLCY3 : Hid (Lo BE Z4 (some ⟨gC, 0, none⟩) xc (some ⟨gY3, 0, none⟩) cY3 [9, 9, 9] Y3) := (HLCY2.out.keepsN HKA.out).app HSZ.out ho hap; have HLAY3 : Hid (Lo BE Z4 (some ⟨gA, 0, none⟩) xa (some ⟨gY1, 0, none⟩) cY1 [7, 7, 7] Y3) := (HLAY2.out.keepsN HKA.out).setO hap HLT.out.2.1.2.2.2.2.1 HLT.out.1.2.2; have HLBY3 : Hid (Lo BE Z4 (some ⟨gB, 0, none⟩) xb (some ⟨gY2, 0, none⟩) cY2 [8, 8, 8] Y3) := (HLBY2.out.keepsN HKA.out).setO hap HLT.out.2.1.2.2.2.2.2 HLT.out.1.2.2; have HALLY3 : Hid (All w lo hi D vr r D' vs s gK cG X w9 (some ⟨gl, 0, none⟩) cl [l0, l1] wl (some ⟨gm, 0, none⟩) cm [m0, m1] wm P vp wq Q vq Y3) := (HALLY2.out.keepsN HKA.out).ap hap HLT.out.2.2.1.2.2 HLT.out.2.2.2.2.2; have HZY3 : Hid (Z4.heap.size ≤ Y3.heap.size) := Nat.le_trans HSZ.out hap.kO.size; clear ho hap)
  clear HKA HRW HSZ HNL HALLY2 HLCY2 HLAY2 HLBY2
  obtain ⟨a1, a2, a3⟩ := HLAY3.out.cellsB HXS.out.1 HXS.out.2.2.2.1
  obtain ⟨b1, b2, b3⟩ := HLBY3.out.cellsB HXS.out.2.1 HXS.out.2.2.2.2.1
  obtain ⟨c1, c2, c3⟩ := HLCY3.out.cellsB HXS.out.2.2.1 HXS.out.2.2.2.2.2
  clear HLAY3 HLBY3 HLCY3 HXS HBD HLE HNE
  simp only [List.append_eq, List.cons_append, List.nil_append]
  go_upto_region 39 with fail
  clear a1 a2 a3 b1 b2 b3 c1 c2 c3 HLT HZY1 HZY2 HZY3 HGA HGC HGB HGF
  go_cut [32] from 290 to 304 (fun v wc => ∃ gR : Nat, v = .slice (some ⟨gR, 0, none⟩) 6 6 ∧ Hid (gR = Y3.heap.size ∧ Keeps no Y3 wc ∧ Sl CE wc (some ⟨Y3.heap.size, 0, none⟩) 6 (vsix [l0, l1] [m0, m1] vp vq) ∧ Y3.heap.size < wc.heap.size))
  case first =>
    have HC6 : Hid (∀ w', Keeps no Y3 w' → w'.cell? ⟨gl, 0, none⟩ = some (.int .i64 l0.k) ∧ w'.cell? ⟨gl, 1, none⟩ = some (.int .u64 (l0.i : Nat)) ∧ w'.cell? ⟨gl, 2, none⟩ = some (.slice l0.op l0.np l0.cp) ∧ w'.cell? ⟨gl, 3, none⟩ = some (.slice l0.ok l0.nk l0.ck) ∧ w'.cell? ⟨gl, 4, none⟩ = some (.int .i64 l1.k) ∧ w'.cell? ⟨gl, 5, none⟩ = some (.int .u64 (l1.i : Nat)) ∧ w'.cell? ⟨gl, 6, none⟩ = some (.slice l1.op l1.np l1.cp) ∧ w'.cell? ⟨gl, 7, none⟩ = some (.slice l1.ok l1.nk l1.ck) ∧ w'.cell? ⟨gm, 0, none⟩ = some (.int .i64 m0.k) ∧ w'.cell? ⟨gm, 1, none⟩ = some (.int .u64 (m0.i : Nat)) ∧ w'.cell? ⟨gm, 2, none⟩ = some (.slice m0.op m0.np m0.cp) ∧ w'.cell? ⟨gm, 3, none⟩ = some (.slice m0.ok m0.nk m0.ck) ∧ w'.cell? ⟨gm, 4, none⟩ = some (.int .i64 m1.k) ∧ w'.cell? ⟨gm, 5, none⟩ = some (.int .u64 (m1.i : Nat)) ∧ w'.cell? ⟨gm, 6, none⟩ = some (.slice m1.op m1.np m1.cp) ∧ w'.cell? ⟨gm, 7, none⟩ = some (.slice m1.ok m1.nk m1.ck) ∧ w'.cell? ⟨P, 0, none⟩ = some (.int .i64 vp.k) ∧ w'.cell? ⟨P, 1, none⟩ = some (.int .u64 (vp.i : Nat)) ∧ w'.cell? ⟨P, 2, none⟩ = some (.slice vp.op vp.np vp.cp) ∧ w'.cell? ⟨P, 3, none⟩ = some (.slice vp.ok vp.nk vp.ck) ∧ w'.cell? ⟨Q, 0, none⟩ = some (.int .i64 vq.k) ∧ w'.cell? ⟨Q, 1, none⟩ = some (.int .u64 (vq.i : Nat)) ∧ w'.cell? ⟨Q, 2, none⟩ = some (.slice vq.op vq.np vq.cp) ∧ w'.cell? ⟨Q, 3, none⟩ = some (.slice vq.ok vq.nk vq.ck)) := by
      intro w' hk
      have h := HALLY3.out.keepsN hk
      have a := two_cells h.l.own
      have b := two_cells h.m.own
      have c := cells4 h.pb
      have d := cells4 h.qb
      exact ⟨a.1, a.2.1, a.2.2.1, a.2.2.2.1, a.2.2.2.2.1, a.2.2.2.2.2.1, a.2.2.2.2.2.2.1, a.2.2.2.2.2.2.2, b.1, b.2.1, b.2.2.1, b.2.2.2.1, b.2.2.2.2.1, b.2.2.2.2.2.1, b.2.2.2.2.2.2.1, b.2.2.2.2.2.2.2, c.1, c.2.1, c.2.2.1, c.2.2.2, d⟩
    go_region_held3 (fun w' => w'.cell? ⟨gl, 0, none⟩ = some (.int .i64 l0.k) ∧ w'.cell? ⟨gl, 1, none⟩ = some (.int .u64 (l0.i : Nat)) ∧ w'.cell? ⟨gl, 2, none⟩ = some (.slice l0.op l0.np l0.cp) ∧ w'.cell? ⟨gl, 3, none⟩ = some (.slice l0.ok l0.nk l0.ck) ∧ w'.cell? ⟨gl, 4, none⟩ = some (.int .i64 l1.k) ∧ w'.cell? ⟨gl, 5, none⟩ = some (.int .u64 (l1.i : Nat)) ∧ w'.cell? ⟨gl, 6, none⟩ = some (.slice l1.op l1.np l1.cp) ∧ w'.cell? ⟨gl, 7, none⟩ = some (.slice l1.ok l1.nk l1.ck) ∧ w'.cell? ⟨gm, 0, none⟩ = some (.int .i64 m0.k) ∧ w'.cell? ⟨gm, 1, none⟩ = some (.int .u64 (m0.i : Nat)) ∧ w'.cell? ⟨gm, 2, none⟩ = some (.slice m0.op m0.np m0.cp) ∧ w'.cell? ⟨gm, 3, none⟩ = some (.slice m0.ok m0.nk m0.ck) ∧ w'.cell? ⟨gm, 4, none⟩ = some (.int .i64 m1.k) ∧ w'.cell? ⟨gm, 5, none⟩ = some (.int .u64 (m1.i : Nat)) ∧ w'.cell? ⟨gm, 6, none⟩ = some (.slice m1.op m1.np m1.cp) ∧ w'.cell? ⟨gm, 7, none⟩ = some (.slice m1.ok m1.nk m1.ck) ∧ w'.cell? ⟨P, 0, none⟩ = some (.int .i64 vp.k) ∧ w'.cell? ⟨P, 1, none⟩ = some (.int .u64 (vp.i : Nat)) ∧ w'.cell? ⟨P, 2, none⟩ = some (.slice vp.op vp.np vp.cp) ∧ w'.cell? ⟨P, 3, none⟩ = some (.slice vp.ok vp.nk vp.ck) ∧ w'.cell? ⟨Q, 0, none⟩ = some (.int .i64 vq.k) ∧ w'.cell? ⟨Q, 1, none⟩ = some (.int .u64 (vq.i : Nat)) ∧ w'.cell? ⟨Q, 2, none⟩ = some (.slice vq.op vq.np vq.cp) ∧ w'.cell? ⟨Q, 3, none⟩ = some (.slice vq.ok vq.nk vq.ck)) (first | exact HC6.out _ (((Keeps.refl no Y3).drew).alloc _) | exact HC6.out _ ((Keeps.refl no Y3).drew) | exact HC6.out _ (Keeps.refl no Y3)) ((fail))
    rename _ ∧ _ => hh
    clear hh HC6
    go_wp2_with fail
    go_meet
    case rel => exact ⟨_, rfl, rfl, ((Keeps.refl no Y3).alloc _).drew, (sl_six Y3 l0 l1 m0 m1 vp vq).keepsN (Keeps.refl no _).drew, by simp⟩
  case rest =>
  rename World => Y4
  obtain ⟨gR, rfl, HR4⟩ := hcut
  obtain ⟨hgR, hk4, hrs, hsz⟩ := HR4.out
  rw [← hgR] at hrs hsz
  clear HR4
  have HSIX : Hid (Six (cutW Y3 w9.heap.size) gR Y4.heap.size (vsix [l0, l1] [m0, m1] vp vq) (fun _ => 0) (fun _ => 0) (Y4.alloc (.cells #[.string ⟨#[48]⟩, .string ⟨#[49]⟩, .string ⟨#[50]⟩, .string ⟨#[51]⟩, .string ⟨#[52]⟩, .string ⟨#[53]⟩] 9)) ∧ ∀ j, j < 6 → ((vsix [l0, l1] [m0, m1] vp vq).getD j cv0).nk ≤ 8796093022000 ∧ ((vsix [l0, l1] [m0, m1] vp vq).getD j cv0).np ≤ 4398046511000) := by
    have hl := HALLY3.out.l
    have h1 := hl.new gl ⟨_, rfl, rfl⟩
    have h2 := hl.own.lt gl ⟨_, rfl, rfl⟩
    exact HALLY3.out.six (by omega) (hk4.alloc _) (Nat.le_of_eq hgR.symm) hsz (hrs.keepsN ((Keeps.refl no _).alloc _)) (sl_nms Y4)
  have HEND : Hid (∀ W', Keeps no (cutW Y3 w9.heap.size) W' → Y4.heap.size < W'.heap.size → Keeps (fun x => w9.heap.size ≤ x) Y3 W') := by
    intro W' hk hs
    have hl := HALLY3.out.l
    have h1 := hl.new gl ⟨_, rfl, rfl⟩
    have h2 := hl.own.lt gl ⟨_, rfl, rfl⟩
    exact keeps_of_cutW (by omega) hk (by omega)
  clear hk4 hrs hsz hgR
  go_upto_block 8 with fail
  generalize Y4.alloc (.cells #[.string ⟨#[48]⟩, .string ⟨#[49]⟩, .string ⟨#[50]⟩, .string ⟨#[51]⟩, .string ⟨#[52]⟩, .string ⟨#[53]⟩] 9) = Y5 at HSIX ⊢
  generalize Y4.heap.size = gN at HSIX HEND ⊢
  generalize vsix [l0, l1] [m0, m1] vp vq = V at HSIX
  have HSB : Hid (∀ j, j < 6 → (V.getD j cv0).nk ≤ 8796093022000 ∧ (V.getD j cv0).np ≤ 4398046511000) := HSIX.out.2
  generalize cutW Y3 w9.heap.size = w0 at HSIX HEND
  have HSIX0 : Hid (Six w0 gR gN V (up V CV.nk 0 0) (up V CV.np 0 0) Y5) := HSIX.out.1.begin
  clear HSIX
  go_cut [34, 35, 36] from 306 to 352 (fun _ _ _ wc => SixI w0 gR gN V 0 wc)
  case first =>
    as_aux_lemma =>
    go_wp2_with fail
    go_loopw [34, 35, 36] (fun v _ _ wr => ∃ I : Nat, v = .int .i64 (I : Nat) ∧ I ≤ 6 ∧ Hid (Six w0 gR gN V (up V CV.nk I 0) (up V CV.np I 0) wr)) (fun v _ _ _ => 6 - (intOf v).toNat)
    case atStart => exact ⟨0, rfl, by omega, HSIX0⟩
    case round =>
      rename World => wr
      clear HSIX0
      obtain ⟨I, rfl, hI, HI⟩ := hrel
      by_cases hI6 : I < 6
      · have hI6' : (I : Int) < 6 := by omega
        obtain ⟨vk, vi, op, np, cp, ok, nk, ck, hv⟩ := cv_all (V.getD I cv0)
        have HV : Hid (V.getD I cv0 = ⟨vk, vi, op, np, cp, ok, nk, ck⟩) := hv
        have hbk : (nk : Int) ≤ 8796093022000 := by have := (HSB.out I hI6).1; rw [hv] at this; simp only at this; omega
        have hbp : (np : Int) ≤ 4398046511000 := by have := (HSB.out I hI6).2; rw [hv] at this; simp only at this; omega
        clear hv
        go_upto_block 10 with fail
        go_cut [35] from 310 to 330 (fun _ wc => Six w0 gR gN V (up V CV.nk (I + 1) 0) (up V CV.np I 0) wc)
        case first =>
          go_wp2_with fail
          go_loopw [35] (fun v wk => ∃ q : Nat, v = .int .i64 (q : Nat) ∧ q ≤ nk ∧ Hid (Six w0 gR gN V (up V CV.nk I q) (up V CV.np I 0) wk)) (fun v _ => nk - (intOf v).toNat)
          case atStart => exact ⟨0, rfl, by omega, HI⟩
          case round =>
            rename World => wk
            clear HI
            obtain ⟨q, rfl, hq, HQ⟩ := hrel
            obtain ⟨d2, d3, d4⟩ := HQ.out.cells hI6 HV.out
            by_cases hqn : q < nk
            · have hqn' : (q : Int) < (nk : Int) := by omega
              obtain ⟨g, rfl, ⟨u, hu⟩, fz, hgR, hgN, HQ2⟩ := HQ.out.stepK hI6 HV.out hqn
              have HST : Hid (∀ w', Keeps (eqA g) wk w' → w'.cell? ⟨gR, I * 4 + 3, none⟩ = some (.slice (some ⟨g, 0, none⟩) nk ck) ∧ w'.cell? ⟨gN, I, none⟩ = some (.string (nmx I))) := fun w' hk => ⟨hk.cell d3 hgR, hk.cell d4 hgN⟩
              clear d2
              go_wp2_with fail
              go_region_held3 (fun w' => w'.cell? ⟨gR, I * 4 + 3, none⟩ = some (.slice (some ⟨g, 0, none⟩) nk ck) ∧ w'.cell? ⟨gN, I, none⟩ = some (.string (nmx I))) (first | exact HST.out _ (((Keeps.refl (eqA g) wk).drew).setA q _) | exact HST.out _ (((Keeps.refl (eqA g) wk).setA q _).drew) | exact HST.out _ ((Keeps.refl (eqA g) wk).drew) | exact HST.out _ (Keeps.refl (eqA g) wk)) ((fail))
              go_wp2_with fail
              go_roundw
              case rel => exact ⟨q + 1, by go_num, by omega, HQ2⟩
              case measure => simp [intOf]; omega
            · have hqn' : ¬ (q : Int) < (nk : Int) := by omega
              go_wp2_with fail
              go_meet
              case rel => exact HQ.out.endK HV.out (by omega)
        case rest =>
        rename World => wr2
        have HI2 : Hid (Six w0 gR gN V (up V CV.nk (I + 1) 0) (up V CV.np I 0) wr2) := hcut
        clear hcut HI
        go_wp2_with fail
        go_loopw [36] (fun v wk => ∃ q : Nat, v = .int .i64 (q : Nat) ∧ q ≤ np ∧ Hid (Six w0 gR gN V (up V CV.nk (I + 1) 0) (up V CV.np I q) wk)) (fun v _ => np - (intOf v).toNat)
        case atStart => exact ⟨0, rfl, by omega, HI2⟩
        case round =>
          rename World => wk
          clear HI2
          obtain ⟨q, rfl, hq, HQ⟩ := hrel
          obtain ⟨d2, d3, d4⟩ := HQ.out.cells hI6 HV.out
          by_cases hqn : q < np
          · have hqn' : (q : Int) < (np : Int) := by omega
            obtain ⟨g, rfl, ⟨u, hu⟩, ⟨u2, hu2⟩, fz, fz2, hgR, hgN, HQ2⟩ := HQ.out.stepP hI6 HV.out hqn
            have HST : Hid (∀ w', Keeps (eqA g) wk w' → w'.cell? ⟨gR, I * 4 + 2, none⟩ = some (.slice (some ⟨g, 0, none⟩) np cp) ∧ w'.cell? ⟨gN, I, none⟩ = some (.string (nmx I))) := fun w' hk => ⟨hk.cell d2 hgR, hk.cell d4 hgN⟩
            clear d3
            go_wp2_with fail
            go_region_held3 (fun w' => w'.cell? ⟨gR, I * 4 + 2, none⟩ = some (.slice (some ⟨g, 0, none⟩) np cp) ∧ w'.cell? ⟨gN, I, none⟩ = some (.string (nmx I))) (first | exact HST.out _ ((((Keeps.refl (eqA g) wk).drew).setA _ _).setA _ _) | exact HST.out _ ((((Keeps.refl (eqA g) wk).setA _ _).setA _ _).drew) | exact HST.out _ ((Keeps.refl (eqA g) wk).drew) | exact HST.out _ (Keeps.refl (eqA g) wk)) ((fail))
            go_wp2_with fail
            go_roundw
            case rel => exact ⟨q + 1, by go_num, by omega, HQ2⟩
            case measure => simp [intOf]; omega
          · have hqn' : ¬ (q : Int) < (np : Int) := by omega
            have HI3 : Hid (Six w0 gR gN V (up V CV.nk (I + 1) 0) (up V CV.np (I + 1) 0) wk) := HQ.out.endP HV.out (by omega)
            clear HQ
            go_wp2_with fail
            go_roundw
            case rel => exact ⟨I + 1, by go_num, by omega, HI3⟩
            case measure => simp [intOf]; omega
      · have hI6' : ¬ (I : Int) < 6 := by omega
        have hIe : I = 6 := by omega
        subst I
        go_wp2_with fail
        go_meet
        case rel => exact HI.out.all
  case rest =>
  rename World => Y6
  have HS6 : Hid (SixI w0 gR gN V 0 Y6) := hcut
  clear hcut HSIX0
  go_upto_block 14 with fail
  go_cut [37, 38, 39, 40] from 353 to 400 (fun _ _ _ _ wc => SixI w0 gR gN V 6 wc)
  case first =>
    as_aux_lemma =>
    go_wp2_with fail
    go_loopw [37, 38, 39, 40] (fun v _ _ _ wr => ∃ I : Nat, v = .int .i64 (I : Nat) ∧ I ≤ 6 ∧ Hid (SixI w0 gR gN V I wr)) (fun v _ _ _ _ => 6 - (intOf v).toNat)
    case atStart => exact ⟨0, rfl, by omega, HS6⟩
    case round =>
      rename World => wr
      clear HS6
      obtain ⟨I, rfl, hI, HI⟩ := hrel
      by_cases hI6 : I < 6
      · have hI6' : (I : Int) < 6 := by omega
        obtain ⟨vk, vi, op, np, cp, ok, nk, ck, hv⟩ := cv_all (V.getD I cv0)
        have HV : Hid (V.getD I cv0 = ⟨vk, vi, op, np, cp, ok, nk, ck⟩) := hv
        have hbk : (nk : Int) ≤ 8796093022000 := by have := (HSB.out I hI6).1; rw [hv] at this; simp only at this; omega
        have hbp : (np : Int) ≤ 4398046511000 := by have := (HSB.out I hI6).2; rw [hv] at this; simp only at this; omega
        clear hv
        obtain ⟨xk, xp, hxk, hxp, HXA, HL0⟩ := HI.out.lens hI6 HV.out
        have HXL : Hid (nk = xk.length ∧ np = xp.length) := ⟨hxk, hxp⟩
        clear hxk hxp
        obtain ⟨d2, d3, d4⟩ := HI.out.cells hI6 HV.out
        go_upto_block 16 with fail
        go_cut [38, 39, 40] from 367 to 377 (fun a b _ wc => ∃ (oa : Option Addr) (na ca : Nat) (ob : Option Addr) (nb cb : Nat), a = .slice oa na ca ∧ b = .slice ob nb cb ∧ Hid (na = nk + 40 ∧ nb = np + 40 ∧ Lng wr ok xk op xp 40 40 oa ca ob cb wc))
        case first =>
          clear d2 d3 d4 HI
          go_wp2_with fail
          go_loopw [38, 39, 40] (fun a b v wk => ∃ (q : Nat) (oa : Option Addr) (na ca : Nat) (ob : Option Addr) (nb cb : Nat), v = .int .i64 (q : Nat) ∧ q ≤ 40 ∧ a = .slice oa na ca ∧ b = .slice ob nb cb ∧ Hid (na = nk + q ∧ nb = np + q ∧ Lng wr ok xk op xp q q oa ca ob cb wk)) (fun _ _ v _ => 40 - (intOf v).toNat)
          case atStart => exact ⟨0, ok, nk, ck, op, np, cp, rfl, by omega, rfl, rfl, rfl, rfl, HL0.out⟩
          case round =>
            rename World => wk
            clear HL0
            obtain ⟨q, oa, na', ca, ob, nb, cb, rfl, hq, rfl, rfl, HQ⟩ := hrel
            by_cases hqn : q < 40
            · have hqn' : (q : Int) < 40 := by omega
              have HK1 : Hid (Keeps no wk (wk.alloc (.cells #[.string ⟨#[109, 111, 114, 101]⟩] 9))) := (Keeps.refl _ _).alloc _
              have HM1 : Hid (Sl TE (wk.alloc (.cells #[.string ⟨#[109, 111, 114, 101]⟩] 9)) (some ⟨wk.heap.size, 0, none⟩) 1 [more]) := sl_more wk
              have HN1 : Hid (na' = (xk ++ List.replicate q more).length ∧ nb = (xp ++ List.replicate q (more, e0)).length) := by
                have h1 := HQ.out; have h2 := HXL.out
                exact ⟨by rw [List.length_append, List.length_replicate]; omega, by rw [List.length_append, List.length_replicate]; omega⟩
              have HB1 : Hid (((xk ++ List.replicate q more).length + [more].length) * TE.nb ≤ 140737488355328 ∧ (xk ++ List.replicate q more).length + [more].length ≤ 140737488355328 ∧ ((xp ++ List.replicate q (more, e0)).length + [(more, e0)].length) * PE.nb ≤ 140737488355328 ∧ (xp ++ List.replicate q (more, e0)).length + [(more, e0)].length ≤ 140737488355328) := by
                have h2 := HXL.out
                have b1 := moreT_b (xk := xk) (q := q) (by omega) hqn
                have b2 := moreP_b (xp := xp) (q := q) (by omega) hqn
                exact ⟨b1.1, b1.2, b2.1, b2.2⟩
              go_wp2_with (at_builtin; first | ((refine wpList_app okT rfl _ _ rfl oa na' ca (xk ++ List.replicate q more) rfl HN1.out.1 (HQ.out.2.2.keepsN HK1.out).k.own (some ⟨wk.heap.size, 0, none⟩) 1 1 [more] rfl rfl (fun e => by cases e) HM1.out.row HB1.out.1 HB1.out.2.1 ?_); intro o1 c1 y1 ho hap; have HQ1 : Hid (Lng wr ok xk op xp (q + 1) q o1 c1 ob cb y1) := (HQ.out.2.2.keepsN HK1.out).stepK ho hap; have HK2 : Hid (Keeps no y1 (y1.alloc (.cells #[.string ⟨#[109, 111, 114, 101]⟩, .string ⟨#[]⟩] 33))) := (Keeps.refl _ _).alloc _; have HM2 : Hid (Sl PE (y1.alloc (.cells #[.string ⟨#[109, 111, 114, 101]⟩, .string ⟨#[]⟩] 33)) (some ⟨y1.heap.size, 0, none⟩) 1 [(more, e0)]) := sl_moreP y1; clear ho hap) | ((refine wpList_app okP rfl _ _ rfl ob nb cb (xp ++ List.replicate q (more, e0)) rfl HN1.out.2 (HQ1.out.keepsN HK2.out).p.own (some ⟨y1.heap.size, 0, none⟩) 1 1 [(more, e0)] rfl rfl (fun e => by cases e) HM2.out.row HB1.out.2.2.1 HB1.out.2.2.2 ?_); intro o2 c2 y2 ho hap; have HQ2 : Hid (Lng wr ok xk op xp (q + 1) (q + 1) o1 c1 o2 c2 y2) := (HQ1.out.keepsN HK2.out).stepP ho hap; clear ho hap))
              go_roundw
              case rel => exact ⟨q + 1, o1, na' + 1, c1, o2, nb + 1, c2, by go_num, by omega, rfl, rfl, by have := HQ.out.1; omega, by have := HQ.out.2.1; omega, HQ2.out⟩
              case measure => simp [intOf]; omega
            · have hqn' : ¬ (q : Int) < 40 := by omega
              have hqe : q = 40 := by omega
              subst q
              go_wp2_with fail
              go_meet
              case rel => exact ⟨oa, na', ca, ob, nb, cb, rfl, rfl, HQ.out⟩
        case rest =>
        rename World => wz'
        obtain ⟨oa, na', ca, ob, nb, cb, rfl, rfl, HQ⟩ := hcut
        obtain ⟨ga, gb, rfl, rfl, hca, hcb⟩ := HQ.out.2.2.cells
        have HI2 : Hid (SixI w0 gR gN V (I + 1) wz') := HI.out.after hI6 HV.out HXL.out.1 HXL.out.2 HXA.out HQ.out.2.2
        clear d2 d3 d4 HI HL0
        obtain ⟨d2, d3, d4⟩ := HI2.out.cells hI6 HV.out
        rw [← HXL.out.1] at hca
        rw [← HXL.out.2] at hcb
        have hlt1 : (nk : Int) < (na' : Int) := by have := HQ.out.1; omega
        have hlt2 : (np : Int) < (nb : Int) := by have := HQ.out.2.1; omega
        unfold more at hca hcb
        go_wp2_with fail
        go_roundw
        case rel => exact ⟨I + 1, by go_num, by omega, HI2⟩
        case measure => simp [intOf]; omega
      · have hI6' : ¬ (I : Int) < 6 := by omega
        have hIe : I = 6 := by omega
        subst I
        go_wp2_with fail
        go_meet
        case rel => exact HI.out
  case rest =>
  rename World => Y7
  have HS7 : Hid (SixI w0 gR gN V 6 Y7) := hcut
  clear hcut HS6
  go_upto_block 18 with fail
  go_cut [41, 42, 43] from 401 to 451 (fun _ _ _ wc => SixI w0 gR gN V 6 wc)
  case first =>
    as_aux_lemma =>
    go_wp2_with fail
    go_loopw [41, 42, 43] (fun v _ _ wr => ∃ I : Nat, v = .int .i64 (I : Nat) ∧ I ≤ 6 ∧ Hid (SixI w0 gR gN V 6 wr)) (fun v _ _ _ => 6 - (intOf v).toNat)
    case atStart => exact ⟨0, rfl, by omega, HS7⟩
    case round =>
      rename World => wr
      clear HS7
      obtain ⟨I, rfl, hI, HI⟩ := hrel
      by_cases hI6 : I < 6
      · have hI6' : (I : Int) < 6 := by omega
        obtain ⟨vk, vi, op, np, cp, ok, nk, ck, hv⟩ := cv_all (V.getD I cv0)
        have HV : Hid (V.getD I cv0 = ⟨vk, vi, op, np, cp, ok, nk, ck⟩) := hv
        have hbk : (nk : Int) ≤ 8796093022000 := by have := (HSB.out I hI6).1; rw [hv] at this; simp only at this; omega
        have hbp : (np : Int) ≤ 4398046511000 := by have := (HSB.out I hI6).2; rw [hv] at this; simp only at this; omega
        clear hv
        go_upto_block 20 with fail
        go_cut [42] from 405 to 427 (fun _ wc => SixI w0 gR gN V 6 wc)
        case first =>
          go_wp2_with fail
          go_loopw [42] (fun v wk => ∃ q : Nat, v = .int .i64 (q : Nat) ∧ q ≤ nk ∧ Hid (SixI w0 gR gN V 6 wk)) (fun v _ => nk - (intOf v).toNat)
          case atStart => exact ⟨0, rfl, by omega, HI⟩
          case round =>
            rename World => wk
            clear HI
            obtain ⟨q, rfl, hq, HQ⟩ := hrel
            obtain ⟨d2, d3, d4⟩ := HQ.out.cells hI6 HV.out
            by_cases hqn : q < nk
            · have hqn' : (q : Int) < (nk : Int) := by omega
              obtain ⟨b, off, rfl, hc⟩ := HQ.out.rowK hI6 HV.out hqn
              have HQ2 : Hid (SixI w0 gR gN V 6 wk.drew) := HQ.out.keepsN (Keeps.refl no wk).drew
              generalize nmx I = nm at d4 hc
              have HST : Hid (∀ w', Keeps no wk w' → w'.cell? ⟨gR, I * 4 + 3, none⟩ = some (.slice (some ⟨b, off, none⟩) nk ck) ∧ w'.cell? ⟨gN, I, none⟩ = some (.string nm) ∧ w'.cell? ⟨b, off + q, none⟩ = some (.string nm)) := fun w' hk => ⟨hk.cellN d3, hk.cellN d4, hk.cellN hc⟩
              go_wp2_with fail
              go_region_held3 (fun w' => w'.cell? ⟨gR, I * 4 + 3, none⟩ = some (.slice (some ⟨b, off, none⟩) nk ck) ∧ w'.cell? ⟨gN, I, none⟩ = some (.string nm) ∧ w'.cell? ⟨b, off + q, none⟩ = some (.string nm)) (first | exact HST.out _ ((Keeps.refl no wk).drew) | exact HST.out _ (Keeps.refl no wk)) ((fail))
              go_wp2_with fail
              go_roundw
              case rel => exact ⟨q + 1, by go_num, by omega, HQ2⟩
              case measure => simp [intOf]; omega
            · have hqn' : ¬ (q : Int) < (nk : Int) := by omega
              go_wp2_with fail
              go_meet
              case rel => exact HQ.out
        case rest =>
        rename World => wr2
        have HI2 : Hid (SixI w0 gR gN V 6 wr2) := hcut
        clear hcut HI
        go_wp2_with fail
        go_loopw [43] (fun v wk => ∃ q : Nat, v = .int .i64 (q : Nat) ∧ q ≤ np ∧ Hid (SixI w0 gR gN V 6 wk)) (fun v _ => np - (intOf v).toNat)
        case atStart => exact ⟨0, rfl, by omega, HI2⟩
        case round =>
          rename World => wk
          clear HI2
          obtain ⟨q, rfl, hq, HQ⟩ := hrel
          obtain ⟨d2, d3, d4⟩ := HQ.out.cells hI6 HV.out
          by_cases hqn : q < np
          · have hqn' : (q : Int) < (np : Int) := by omega
            obtain ⟨b, off, rfl, hc⟩ := HQ.out.rowP hI6 HV.out hqn
            have HQ2 : Hid (SixI w0 gR gN V 6 wk.drew) := HQ.out.keepsN (Keeps.refl no wk).drew
            generalize nmx I = nm at d4 hc
            have HST : Hid (∀ w', Keeps no wk w' → w'.cell? ⟨gR, I * 4 + 2, none⟩ = some (.slice (some ⟨b, off, none⟩) np cp) ∧ w'.cell? ⟨gN, I, none⟩ = some (.string nm) ∧ w'.cell? ⟨b, off + q * 2, none⟩ = some (.string nm)) := fun w' hk => ⟨hk.cellN d2, hk.cellN d4, hk.cellN hc⟩
            go_wp2_with fail
            go_region_held3 (fun w' => w'.cell? ⟨gR, I * 4 + 2, none⟩ = some (.slice (some ⟨b, off, none⟩) np cp) ∧ w'.cell? ⟨gN, I, none⟩ = some (.string nm) ∧ w'.cell? ⟨b, off + q * 2, none⟩ = some (.string nm)) (first | exact HST.out _ ((Keeps.refl no wk).drew) | exact HST.out _ (Keeps.refl no wk)) ((fail))
            go_wp2_with fail
            go_roundw
            case rel => exact ⟨q + 1, by go_num, by omega, HQ2⟩
            case measure => simp [intOf]; omega
          · have hqn' : ¬ (q : Int) < (np : Int) := by omega
            go_wp2_with fail
            go_roundw
            case rel => exact ⟨I + 1, by go_num, by omega, HQ⟩
            case measure => simp [intOf]; omega
      · have hI6' : ¬ (I : Int) < 6 := by omega
        have hIe : I = 6 := by omega
        subst I
        go_wp2_with fail
        go_meet
        case rel => exact HI.out
  case rest =>
  rename World => Y8
  have HS8 : Hid (SixI w0 gR gN V 6 Y8) := hcut
  clear hcut HS7
  have HKY : Hid (Keeps (fun x => w9.heap.size ≤ x) Y3 Y8) := HEND.out Y8 HS8.out.kp (HS8.out.nm.lt okT (by decide) gN ⟨_, rfl, rfl⟩)
  have HLO9 : Hid (lo ≤ w9.heap.size ∧ gK < w9.heap.size) := by have := HGK.out; exact ⟨by omega, by omega⟩
  have HRV : Hid (VarL D vr r lo Y8) := HALLY3.out.vr.keeps HKY.out (fun x hx => Nat.le_trans HLO9.out.1 hx)
  have HSV : Hid (VarL D' vs s lo Y8) := HALLY3.out.vs.keeps HKY.out (fun x hx => Nat.le_trans HLO9.out.1 hx)
  have HKK : Hid (BSl Y8 (some ⟨gK, 0, none⟩) cG X) := HALLY3.out.k.keeps HKY.out (fun x hx hs => by
    obtain ⟨y, ey, rfl⟩ := hx
    cases ey
    exact absurd HLO9.out.2 (Nat.not_lt.2 hs))
  have HKW : Hid (Keeps no w Y8) := HALLY3.out.kp.then HKY.out (fun x hx => .inr (Nat.le_trans HLW.out (Nat.le_trans HLO9.out.1 hx)))
  clear HKY HLO9 HS8 HEND HSB HALLY3 HGK
  generalize na + 1 = n at hn hnb hn0 HNN HXT ⊢
  obtain ⟨z0', z1', z2', z3'⟩ := cells4 HRV.out.b
  go_wp2_with fail
  refine (Build_any Y8 vr.k vr.i vr.op vr.np vr.cp vr.ok vr.nk vr.ck r HRV.out.c (ht.keepsN HKW.out)).mono ?_
  rintro e x1 ⟨oD, nD, cD, rfl, hnD, hownD, hnewD, hkD⟩
  rw [HBB.out.2] at hnD hownD
  rw [HBB.out.1]
  obtain ⟨gD, rfl⟩ := owns_some' hownD (enc_ne r)
  have eD : nD = n := by rw [hnD.out, hn.out]
  clear hnD
  subst nD
  have HOD : Hid (Owns x1 (some ⟨gD, 0, none⟩) cD (enc r)) := hownD
  have HKD : Hid (Keeps no Y8 x1) := hkD
  clear z0' z1' z2' z3' hownD hnewD hkD
  go_wp2_with fail
  refine (Scan_any x1 (some ⟨gK, 0, none⟩) N cG X HNX.out (by omega) (HKK.out.keeps HKD.out (fun _ _ h => h)) (ht.keepsN (HKW.out.trans HKD.out))).mono ?_
  rintro e x2 ⟨oz, nz, cz, tz, Zs, rs, rfl, HSC, hnl, htl, hkz⟩
  obtain ⟨hrs, htt⟩ := HSC.out.2.2.1.one (e := 0) (e' := 0) HRU.out.1 HSC.out.2.2.2 HRU.out.2
  subst hrs
  subst tz
  obtain rfl : nz = 2 := HSC.out.2.1
  obtain ⟨z0, z1, rfl⟩ := len_two HSC.out.1.len
  obtain ⟨gz, rfl⟩ := own_some HSC.out.1.own (by simp)
  have HZ : Hid (Scn x1 x2 (some ⟨gz, 0, none⟩) cz [z0, z1] [r, s]) := HSC.out.1
  have HKZ : Hid (Keeps no Y8 x2) := HKD.out.trans hkz
  have HKDZ : Hid (Keeps no x1 x2) := hkz
  clear HSC hnl htl hkz
  have HCELL : Hid (∀ w', Keeps no x2 w' → w'.cell? ⟨gz, 0, none⟩ = some (.int .i64 z0.k) ∧ w'.cell? ⟨gz, 1, none⟩ = some (.int .u64 (z0.i : Nat)) ∧ w'.cell? ⟨gz, 2, none⟩ = some (.slice z0.op z0.np z0.cp) ∧ w'.cell? ⟨gz, 3, none⟩ = some (.slice z0.ok z0.nk z0.ck) ∧ w'.cell? ⟨gz, 4, none⟩ = some (.int .i64 z1.k) ∧ w'.cell? ⟨gz, 5, none⟩ = some (.int .u64 (z1.i : Nat)) ∧ w'.cell? ⟨gz, 6, none⟩ = some (.slice z1.op z1.np z1.cp) ∧ w'.cell? ⟨gz, 7, none⟩ = some (.slice z1.ok z1.nk z1.ck) ∧ w'.cell? ⟨D, 0, none⟩ = some (.int .i64 vr.k) ∧ w'.cell? ⟨D, 1, none⟩ = some (.int .u64 (vr.i : Nat)) ∧ w'.cell? ⟨D, 2, none⟩ = some (.slice vr.op vr.np vr.cp) ∧ w'.cell? ⟨D, 3, none⟩ = some (.slice vr.ok vr.nk vr.ck) ∧ w'.cell? ⟨D', 0, none⟩ = some (.int .i64 vs.k) ∧ w'.cell? ⟨D', 1, none⟩ = some (.int .u64 (vs.i : Nat)) ∧ w'.cell? ⟨D', 2, none⟩ = some (.slice vs.op vs.np vs.cp) ∧ w'.cell? ⟨D', 3, none⟩ = some (.slice vs.ok vs.nk vs.ck)) := by
    intro w' hk
    have a := two_cells (HZ.out.keepsN hk).own
    have e := cells4 (HRV.out.keepsN (HKZ.out.trans hk)).b
    have f := cells4 (HSV.out.keepsN (HKZ.out.trans hk)).b
    exact ⟨a.1, a.2.1, a.2.2.1, a.2.2.2.1, a.2.2.2.2.1, a.2.2.2.2.2.1, a.2.2.2.2.2.2.1, a.2.2.2.2.2.2.2, e.1, e.2.1, e.2.2.1, e.2.2.2, f⟩
  have HIS : Hid (∀ w', Keeps no x2 w' → IsC w' z0 r ∧ IsC w' z1 s ∧ IsC w' vr r ∧ IsC w' vs s) := by
    intro w' hk
    have h := HZ.out.keepsN hk
    exact ⟨(h.each 0 (by simp)).isC, (h.each 1 (by simp)).isC, (HRV.out.keepsN (HKZ.out.trans hk)).c, (HSV.out.keepsN (HKZ.out.trans hk)).c⟩
  have hnN : n ≤ N := by have := HNN.out; omega
  obtain ⟨hcut, hsl⟩ := cut_hk .i64 Y8 (some ⟨gK, 0, none⟩) cG X N n HNX.out hnN HKK.out
  have hcG : (n : Int) ≤ (cG : Int) := by have := HKK.out.cap; have := HNX.out; omega
  have HRO : Hid (∀ w', Keeps no x2 w' → BRow w' (some ⟨gD, 0, none⟩) (enc r) ∧ BRow w' (some ⟨gK, 0, none⟩) (enc r)) := by
    intro w' hk
    rw [HXT.out] at hsl
    exact ⟨(HOD.out.keeps (HKDZ.out.trans hk) (fun _ _ h => h)).row (enc_byt r) (by have := hn.out; omega), (hsl.keeps (HKZ.out.trans hk) (fun _ _ h => h)).row⟩
  have HKF : Hid (Keeps no w x2) := HKW.out.trans HKZ.out
  clear hsl HZ HOD HKD HKZ HKDZ HKK HRV HSV HKW
  go_wp2_with fail
  go_region_held3 (fun w' => w'.cell? ⟨gz, 0, none⟩ = some (.int .i64 z0.k) ∧ w'.cell? ⟨gz, 1, none⟩ = some (.int .u64 (z0.i : Nat)) ∧ w'.cell? ⟨gz, 2, none⟩ = some (.slice z0.op z0.np z0.cp) ∧ w'.cell? ⟨gz, 3, none⟩ = some (.slice z0.ok z0.nk z0.ck) ∧ w'.cell? ⟨gz, 4, none⟩ = some (.int .i64 z1.k) ∧ w'.cell? ⟨gz, 5, none⟩ = some (.int .u64 (z1.i : Nat)) ∧ w'.cell? ⟨gz, 6, none⟩ = some (.slice z1.op z1.np z1.cp) ∧ w'.cell? ⟨gz, 7, none⟩ = some (.slice z1.ok z1.nk z1.ck) ∧ w'.cell? ⟨D, 0, none⟩ = some (.int .i64 vr.k) ∧ w'.cell? ⟨D, 1, none⟩ = some (.int .u64 (vr.i : Nat)) ∧ w'.cell? ⟨D, 2, none⟩ = some (.slice vr.op vr.np vr.cp) ∧ w'.cell? ⟨D, 3, none⟩ = some (.slice vr.ok vr.nk vr.ck) ∧ w'.cell? ⟨D', 0, none⟩ = some (.int .i64 vs.k) ∧ w'.cell? ⟨D', 1, none⟩ = some (.int .u64 (vs.i : Nat)) ∧ w'.cell? ⟨D', 2, none⟩ = some (.slice vs.op vs.np vs.cp) ∧ w'.cell? ⟨D', 3, none⟩ = some (.slice vs.ok vs.nk vs.ck)) (first | exact HCELL.out _ K2.out | exact HCELL.out _ K1.out | exact HCELL.out _ ((Keeps.refl no x2).drew) | exact HCELL.out _ (Keeps.refl no x2)) ((first | (go_at_call 18; refine (same_bytes _ (some ⟨gD, 0, none⟩) n cD (some ⟨gK, 0, none⟩) n cG (enc r) (enc r) hn.out hn.out (HRO.out _ ((Keeps.refl no x2).drew)).1 (HRO.out _ ((Keeps.refl no x2).drew)).2).mono ?_; rw [decide_eq_true rfl]; rintro e u0 ⟨rfl, hu⟩; subst u0) | (go_at_call 15; refine (sameR_any _ z1.k z1.i z1.op z1.np z1.cp z1.ok z1.nk z1.ck s (HIS.out _ K1.out).2.1 vs.k vs.i vs.op vs.np vs.cp vs.ok vs.nk vs.ck s (HIS.out _ K1.out).2.2.2).mono ?_; rintro e u2 ⟨⟨B1, rfl, hB1⟩, hk⟩; have hB1t : B1 = true := hB1.out.2 rfl; subst hB1t; have K2 : Hid (Keeps no x2 u2) := K1.out.trans hk; clear hB1 hk) | (go_at_call 15; refine (sameR_any _ z0.k z0.i z0.op z0.np z0.cp z0.ok z0.nk z0.ck r (HIS.out _ ((Keeps.refl no x2).drew)).1 vr.k vr.i vr.op vr.np vr.cp vr.ok vr.nk vr.ck r (HIS.out _ ((Keeps.refl no x2).drew)).2.2.1).mono ?_; rintro e u1 ⟨⟨B1, rfl, hB1⟩, hk⟩; have hB1t : B1 = true := hB1.out.2 rfl; subst hB1t; have K1 : Hid (Keeps no x2 u1) := ((Keeps.refl no x2).drew).trans hk; clear hB1 hk)))
  go_wp2_with fail
  go_ret
  exact ⟨rfl, HKF.out.trans K2.out⟩
end Go.Proofs.YtdalheeifgampaaDoor
