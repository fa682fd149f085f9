/- FrameLimit: the walk. -/
import Derived.Test.YtaeajgjehfjkbaaC7
import Derived.BigRegion
import Derived.Deep.RegionHeld3
import Derived.Deep.RegionLaw
namespace Go.Proofs.Ytaeajgjehfjkbaa
open Go.RowKit
set_option linter.unusedVariables false
set_option linter.unusedSimpArgs false

theorem lim_long (j : Nat) (h0 : 0 < j) (h : j < 256) (L : Bs) : split ([0, 16, 0, UInt8.ofNat j] ++ L) = none := by
  have e : num ([0, 16, 0, UInt8.ofNat j] ++ L) = 1048576 + j := by
    simp [num]
    omega
  exact split_long (by simp) (by rw [e]; omega)
theorem lim_whole (L : Bs) (h : L.length ≤ 1048576) : split (fr L ++ [7]) = some ([L], [7]) := by
  rw [split_frame L [7] h, split_short (by simp)]
  rfl
theorem lim_part (L : Bs) (n : Nat) (hn : n = L.length) (h : L.length ≤ 1048576) : split ((fr L).take (n + 3)) = some ([], (fr L).take (n + 3)) := by
  by_cases h0 : n = 0
  · subst hn
    exact split_short (by rw [List.length_take, fr_len]; omega)
  · have hl : ((fr L).take (n + 3)).length = n + 3 := by rw [List.length_take, fr_len]; omega
    have e : num ((fr L).take (n + 3)) = n := by
      rw [fr, List.take_append, List.take_of_length_le (by rw [hd_len]; omega), num_hd _ (by omega), hn]
    exact split_part (by omega) (by rw [e]; omega) (by rw [e]; omega)

set_option maxRecDepth 100000 in
set_option maxHeartbeats 0 in
theorem frameLimit_any (w : World) (d : Int) (hd : -9223372036854775808 ≤ d ∧ d ≤ 9223372036854775807) :
    Calls Try.prog 3 #[.int .i64 d] w fun e w' => e = .returned (.bool true) ∧ Keeps no w w' := by
  obtain ⟨u, hu⟩ : ∃ u, IntKind.u64.wrap d = u := ⟨_, rfl⟩
  have hu1 : 0 ≤ u := by rw [← hu, IntKind.wrap_u64]; omega
  have hu2 : u ≤ 18446744073709551615 := by rw [← hu, IntKind.wrap_u64]; omega
  obtain ⟨q, hq⟩ : ∃ q : Nat, u % 6 = (q : Int) := ⟨(u % 6).toNat, by omega⟩
  have hq6 : q < 6 := by omega
  obtain ⟨n, hn⟩ : ∃ n : Nat, n = 1048574 + q := ⟨_, rfl⟩
  have hni : 1048574 + (q : Int) = (n : Int) := by omega
  clear hd
  go_enter Try.func3, Try.ntmps3
  go_wp2_with fail
  refine (alive_any w).mono ?_
  rintro e w1 ⟨rfl, hk1⟩
  have HK1 : Hid (Keeps no w w1) := hk1
  have HN : Hid (n = 1048574 + q) := hn
  clear hk1 hn
  go_wp2_with fail
  refine (long_any w1 n (by have := HN.out; omega) (by have := HN.out; omega)).mono ?_
  rintro e w2 ⟨o2, c2, rfl, hO2, _, hk2⟩
  obtain ⟨L, hL⟩ : ∃ L, L = lg n := ⟨_, rfl⟩
  rw [← hL] at hO2
  have HL : Hid (L = lg n) := hL
  have HLL : Hid (n = L.length) := by show _ = _; rw [hL, lg_len]
  have HK2 : Hid (Keeps no w w2) := HK1.out.trans hk2
  have HO2 : Hid (Own BE w2 o2 c2 L) := hO2
  clear hO2 hk2 HK1 hL
  by_cases hbig : 1048576 < (n : Int)
  · go_wp2_with fail
    refine (build_long w2 o2 n c2 hbig).mono ?_
    rintro e w3 ⟨rfl, e3⟩
    subst w3
    obtain ⟨j, hj⟩ : ∃ j : Nat, (n : Int) - 1048576 = j := ⟨n - 1048576, by omega⟩
    have hj2 : (0 : Int) < j := by omega
    have hj3 : (j : Int) ≤ 3 := by have := HN.out; omega
    have HLC : Hid (#[Value.int .u8 0, .int .u8 16, .int .u8 0, .int .u8 (j : Int)].toList = BE.cells [0, 16, 0, UInt8.ofNat j]) := by
      show _ = _
      rw [cells_B]
      simp only [List.map_cons, List.map_nil, bv, UInt8.toNat_ofNat']
      have e0 : ((UInt8.toNat 0 : Nat) : Int) = 0 := rfl
      have e1 : ((UInt8.toNat 16 : Nat) : Int) = 16 := rfl
      have e2 : ((j % 2 ^ 8 : Nat) : Int) = (j : Int) := by omega
      rw [e0, e1, e2]
    go_wp2_with fail
    refine (long_any _ n (by have := HN.out; omega) (by have := HN.out; omega)).mono ?_
    rintro e w3 ⟨o3, c3, rfl, hO3, hN3, hk3⟩
    rw [← HL.out] at hO3
    have HA : Hid (Own BE w3 (some ⟨w2.heap.size, 0, none⟩) 4 [0, 16, 0, UInt8.ofNat j]) := (lit_own okB w2 [0, 16, 0, UInt8.ofNat j] 4 rfl (by unfold maxLen; omega) _ HLC.out).keepsN hk3
    have HO3 : Hid (Own BE w3 o3 c3 L) := hO3
    have HK3 : Hid (Keeps no w w3) := (HK2.out.alloc _).trans hk3
    have HKW : Hid (Keeps no w2 w3) := ((Keeps.refl _ _).alloc _).trans hk3
    clear hO3 hN3 hk3
    go_wp2_with (at_builtin; go_must (refine wpList_app okB rfl _ _ rfl _ _ _ [0, 16, 0, UInt8.ofNat j] rfl rfl HA.out o3 n c3 L rfl HLL.out HO3.out.sl.nil HO3.out.row (by have := HLL.out; have := HN.out; simp [BE]; omega) (by have := HLL.out; have := HN.out; simp; omega) ?_); intro o4 c4 w4 ho4 hap4)
    have HK4 : Hid (Keeps no w2 w4) := (hap4.new (w0 := w2) (new_fresh w2 _ (Nat.le_refl _) _) HKW.out).2
    have HO4 : Hid (Own BE w4 o4 c4 ([0, 16, 0, UInt8.ofNat j] ++ L)) := ho4
    clear ho4 hap4
    refine (split_refused w4 o4 _ c4 _ (by rw [List.length_append, ← HLL.out]; rfl) HO4.out.sl (by have := HN.out; omega) (lim_long j (by omega) (by omega) L)).mono ?_
    rintro e w5 ⟨rfl, hk5⟩
    have HK5 : Hid (Keeps no w w5) := (HK2.out.trans HK4.out).trans hk5
    clear hk5
    go_wp2_with fail
    go_ret
    exact ⟨rfl, HK5.out⟩
  · have hsm : (n : Int) ≤ 1048576 := by omega
    clear hbig
    go_wp2_with fail
    refine (build_any w2 o2 n c2 L HLL.out HO2.out.sl hsm).mono ?_
    rintro e w3 ⟨o3, m3, c3, rfl, hm3, hO3, _, hk3⟩
    have hm3' : m3 = n + 4 := by rw [hm3.out, Nat.add_comm]
    subst m3
    have HK3 : Hid (Keeps no w w3) := HK2.out.trans hk3
    have HO3 : Hid (Own BE w3 o3 c3 (fr L)) := hO3
    have HFL : Hid ((fr L).length = n + 4) := by show _ = _; rw [fr_len, ← HLL.out, Nat.add_comm]
    have HLL5 : Hid (L.length ≤ 1048576) := by show _ ≤ _; have := HLL.out; omega
    clear hk3 hO3 HK2 HO2
    go_wp2_with fail
    refine (own_any w3 o3 (n + 4) c3 (fr L) HFL.out.symm HO3.out.sl (by have := HFL.out; omega)).mono ?_
    rintro e w4 ⟨v, rfl, o4, m4, c4, rfl, hm4, ho4, hn4, hk4⟩
    obtain rfl : m4 = n + 4 := hm4.out.trans HFL.out
    have HO4 : Hid (Own BE w4 o4 c4 (fr L)) := ho4
    have HB4 : Hid (Own BE w4 o3 c3 (fr L) ∧ Keeps no w w4 ∧ New w3 o4 ∧ Keeps no w3 w4) := ⟨HO3.out.keepsN hk4, HK3.out.trans hk4, hn4, hk4⟩
    clear hm4 ho4 hn4 hk4
    go_wp2_with (at_builtin; go_must (refine wpList_app okB rfl _ _ rfl o4 _ c4 (fr L) rfl HFL.out.symm (HO4.out.keepsN ((Keeps.refl _ _).alloc _)) _ _ _ [7] rfl rfl (fun e => by cases e) (lit_row okB w4 [7] _ _ rfl) (by have := HFL.out; simp [BE]; omega) (by have := HFL.out; simp; omega) ?_); intro o5 c5 w5 ho5 hap5)
    have HO5 : Hid (Own BE w5 o5 c5 (fr L ++ [7])) := ho5
    have HK5 : Hid (Keeps no w3 w5) := (hap5.new (w0 := w3) HB4.out.2.2.1 (HB4.out.2.2.2.alloc _)).2
    clear ho5 hap5
    refine (split_known w5 o5 _ c5 (fr L ++ [7]) (by rw [List.length_append, HFL.out]; rfl) HO5.out.sl (by omega) _ _ (lim_whole L HLL5.out) 1 1 rfl rfl).mono ?_
    rintro e w6 ⟨oL, cL, ls, oR, cR, rfl, hls, hS⟩
    have HK6 : Hid (Keeps no w3 w6) := HK5.out.trans hS.h.kp
    have HS6 : Hid (Lst w6 oL ls ∧ Own BE w6 oR cR [7] ∧ bods ls = [L]) := ⟨hS.h.lst, hS.rest, hls⟩
    clear hls hS HK5 HO5 HB4 HO4
    obtain ⟨g3, eg3⟩ : ∃ g, o3 = some ⟨g, 0, none⟩ := by
      rcases HO3.out.shape with ⟨_, _, e⟩ | ⟨g, cur, e, _⟩
      · have := HFL.out; rw [e] at this; simp at this
      · exact ⟨g, e⟩
    subst eg3
    have hcut := cutO (some (Addr.mk g3 0 none)) (n + 4) c3 (n + 3) (by have := HO3.out.cap.1; have := HFL.out; omega) HO3.out.cap.2
    rw [show ((n + 3 : Nat) : Int) = (n : Int) + 3 by omega] at hcut
    have HTK : Hid (((fr L).take (n + 3)).length = n + 3) := by show _ = _; rw [List.length_take, HFL.out]; omega
    have HSP := lim_part L n HLL.out HLL5.out
    obtain ⟨T, hT⟩ : ∃ T, T = (fr L).take (n + 3) := ⟨_, rfl⟩
    rw [← hT] at HTK HSP
    have HT : Hid (Row BE w3 (some (Addr.mk g3 0 none)) T) := by show Row BE w3 (some (Addr.mk g3 0 none)) T; rw [hT]; exact HO3.out.row.take okB _
    have HSP : Hid (split T = some ([], T)) := HSP
    have HCAP : Hid (n + 3 ≤ c3 ∧ ((some (Addr.mk g3 0 none)) = none → c3 = 0)) := ⟨by have := HO3.out.cap.1; have := HFL.out; omega, HO3.out.cap.2⟩
    clear hT
    go_wp2_with fail
    refine (own_any w6 (some (Addr.mk g3 0 none)) (n + 3) c3 T HTK.out.symm ⟨HT.out.keepsN HK6.out, by rw [HTK.out]; exact HCAP.out.1, HCAP.out.2⟩ (by have := HTK.out; omega)).mono ?_
    rintro e w7 ⟨v, rfl, o7, m7, c7, rfl, hm7, ho7, hn7, hk7⟩
    obtain rfl : m7 = n + 3 := hm7.out.trans HTK.out
    have HO7 : Hid (Own BE w7 o7 c7 T) := ho7
    have HK7 : Hid (Keeps no w3 w7) := HK6.out.trans hk7
    have HS7 : Hid (Lst w7 oL ls ∧ Own BE w7 oR cR [7] ∧ bods ls = [L]) := ⟨HS6.out.1.keepsN hk7, HS6.out.2.1.keepsN hk7, HS6.out.2.2⟩
    clear ho7 hn7 hk7 hm7 HK6 HS6
    go_wp2_with fail
    refine (split_known w7 o7 _ c7 T HTK.out.symm HO7.out.sl (by omega) _ _ HSP.out 0 (n + 3) rfl HTK.out.symm).mono ?_
    rintro e w8 ⟨oP, cP, ps, oM, cM, rfl, hps, hP⟩
    have HK8 : Hid (Keeps no w w8) := (HK3.out.trans HK7.out).trans hP.h.kp
    have HK38 : Hid (Keeps no w3 w8) := HK7.out.trans hP.h.kp
    have HS8 : Hid (Lst w8 oL ls ∧ Own BE w8 oR cR [7] ∧ bods ls = [L]) := ⟨HS7.out.1.keepsN hP.h.kp, HS7.out.2.1.keepsN hP.h.kp, HS7.out.2.2⟩
    have HM8 : Hid (Own BE w8 oM cM T) := hP.rest
    have HT8 : Hid (Row BE w8 (some (Addr.mk g3 0 none)) T) := HT.out.keepsN HK38.out
    clear hps hP HK7 HS7 HO7 HK3 HO3
    have hl1 : ls.length = 1 := by rw [← bods_len, HS8.out.2.2]; rfl
    obtain ⟨b1, f1, rfl, d1⟩ := rowX_at HS8.out.1.l (j := 0) (by omega)
    have r1 := HS8.out.1.x 0 (by omega)
    have x1 : (ls.getD 0 ls0).xs = L := by rw [← bods_at, HS8.out.2.2]; rfl
    rw [x1] at r1
    rw [x1, ← HLL.out, Nat.add_zero] at d1
    obtain ⟨X, hX⟩ : ∃ X, X = ls.getD 0 ls0 := ⟨_, rfl⟩
    rw [← hX] at d1 r1
    have HX : Hid (Row BE w8 X.o L) := r1
    have HR : Hid (Own BE w8 oR cR [7]) := HS8.out.2.1
    clear hX r1 x1 hl1 HS8 HK38 HT HSP
    have HD1 : Hid (w8.cell? ⟨b1, f1, none⟩ = some (.slice X.o n X.c)) := d1
    have hw3 : IntKind.i64.wrap ((n : Int) + 3) = (n : Int) + 3 := by rw [IntKind.wrap_i64]; omega
    have hw0 : (0 : Int) ≤ (n : Int) + 3 := by omega
    have hw1 : (n : Int) + 3 ≤ (c3 : Int) := by have := HCAP.out.1; omega
    have HN5 : Hid (0 < n ∧ (n : Int) ≤ 2000000) := ⟨by have := HN.out; omega, by omega⟩
    go_wp2_with fail
    go_region_held3 (fun w' => w'.cell? ⟨b1, f1, none⟩ = some (.slice X.o n X.c)) (go_keep) ((first | (go_at_call 10; refine (long_any _ n HN5.out.1 HN5.out.2).mono ?_; rintro e w9 ⟨o9, c9, rfl, hO9, hN9, hk9⟩; rw [← HL.out] at hO9; have HK9 : Hid (Keeps no w8 w9) := (Keeps.refl no w8).drew.trans hk9; have HO9 : Hid (Own BE w9 o9 c9 L) := hO9; have x1 := HK9.out.cellN HD1.out; clear hO9 hN9 hk9) | (go_at_call_of 13 (Value.slice X.o n X.c); refine (same_yes _ X.o n X.c o9 n c9 L HLL.out HLL.out (HX.out.keepsN HK9.out) HO9.out.row).mono ?_; rintro e wa ⟨rfl, ea⟩; subst wa) | (go_at_call_of 13 (Value.slice oR 1 cR); refine (same_yes _ oR 1 cR _ 1 1 [7] rfl rfl (HR.out.row.keepsN (HK9.out.alloc _)) (lit_row okB w9 [7] _ _ rfl)).mono ?_; rintro e wa ⟨rfl, ea⟩; subst wa) | (go_at_call 13; refine (same_yes _ oM _ cM (some (Addr.mk g3 0 none)) _ c3 T (by have := HTK.out; omega) (by have := HTK.out; omega) (HM8.out.row.keepsN (HK9.out.alloc _)) (HT8.out.keepsN (HK9.out.alloc _))).mono ?_; rintro e wa ⟨rfl, ea⟩; subst wa)))
    go_wp2_with fail
    go_ret
    exact ⟨rfl, HK8.out.trans (HK9.out.alloc _)⟩
end Go.Proofs.Ytaeajgjehfjkbaa
