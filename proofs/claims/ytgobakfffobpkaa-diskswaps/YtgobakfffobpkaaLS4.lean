/- DiskSwaps' walk, a case for each call at which the power goes off. (Written by wip/tools/mkswaps.py.) -/
import Derived.Test.YtgobakfffobpkaaLS0
namespace Go.Proofs.Ytgobakfffobpkaa
open Go.RowKit Dk
set_option linter.unusedVariables false
set_option linter.unusedSimpArgs false


set_option maxRecDepth 20000 in
theorem swaps_4 (w : World) (oa : Option Addr) (na ca : Nat) (ob : Option Addr) (nb cb : Nat) (n keep parts : Int) (xs ys : List UInt8) (hna : na = xs.length) (hnb : nb = ys.length) (ha : Sl BE w oa ca xs) (hb : Sl BE w ob cb ys) (hx : xs.length ≤ 140737488351232) (hy : ys.length ≤ 140737488351232) (hn : i64 n) (hk : i64 keep) (hp : i64 parts)
    (M : Int) (hM : bits .and .i64 n 7 = M) (h0 : M = 4) (h7 : M ≤ 7) :
    Calls Try.prog 3 #[.slice oa na ca, .slice ob nb cb, .int .i64 n, .int .i64 keep, .int .i64 parts] w fun e w' => e = .returned (.bool true) ∧ Keeps no w w' := by
  subst h0
  have kc := fun (w : World) (C : Array Value) (n c : Nat) => Lib.run_convert_bytes_const (P := Try.prog) w 22 5 C n c Try.underlying22 Try.underlying5
  obtain ⟨P, hP⟩ : ∃ P : Nat, bits .and .i64 parts 65535 = ((P : Nat) : Int) ∧ P ≤ 65535 := ⟨(parts % 65536).toNat, by rw [i64_and65535]; omega, by omega⟩
  obtain ⟨hP1, hP2⟩ := hP
  obtain ⟨C, hC⟩ : ∃ C : Nat, C = if nb = 0 then 0 else P % nb := ⟨_, rfl⟩
  have hCn : C ≤ nb := by
    rw [hC]
    split
    · omega
    · have := Nat.mod_lt P (show 0 < nb by omega); omega
  have HC : Hid (0 < nb → Int.tmod ((P : Nat) : Int) ((nb : Nat) : Int) = ((C : Nat) : Int)) := (show _ from fun h => by rw [run_rem P nb h, hC, if_neg (by omega)])
  have HC0 : Hid (¬ 0 < nb → C = 0) := (show _ from fun h => by rw [hC, if_pos (by omega)])
  have hcut1 := cutO ob nb cb C (by have := hb.cap; omega) hb.nil
  obtain ⟨A2, d2, hcut2, hsl2⟩ := cutL w ob cb ys nb C hnb hCn hb
  have hsl1 : Sl BE w ob cb (ys.take C) := ⟨hb.row.take okB C, by have := hb.cap; simp; omega, hb.nil⟩
  have HNA : Hid (na = xs.length) := hna
  have HNB : Hid (nb = ys.length) := hnb
  have HA : Hid (Sl BE w oa ca xs) := ha
  have HB : Hid (Sl BE w ob cb ys) := hb
  have HS1 : Hid (Sl BE w ob cb (ys.take C)) := hsl1
  have HS2 : Hid (Sl BE w A2 d2 (ys.drop C)) := hsl2
  have HX : Hid (xs.length ≤ 140737488351232) := hx
  have HY : Hid (ys.length ≤ 140737488351232) := hy
  have HKI : Hid (i64 keep) := hk
  have HMI : Hid (i64 4) := (show i64 _ from ⟨by omega, by omega⟩)
  have HL1 : Hid (C = (ys.take C).length) := (show _ = _ by rw [List.length_take]; omega)
  have HL2 : Hid (nb - C = (ys.drop C).length) := (show _ = _ by rw [List.length_drop]; omega)
  have hnb' : nb ≤ 140737488351232 := by omega
  have hcb : nb ≤ cb := by have := hb.cap; omega
  clear hna hnb ha hb hsl1 hsl2 hx hy hk hp hC
  go_enter Try.func3, Try.ntmps3
  go_wp2_with fail
  refine (alive_any w).mono ?_
  rintro e w0 ⟨rfl, hk0⟩
  go_wp2_with fail
  refine (new_any w0).mono ?_
  rintro e w1 ⟨p, rfl, h1, hk1⟩
  have d1 : Hid (Dn w w1 p _ Dk.new) := ⟨h1, fun k hk => Nat.le_trans hk0.size hk.1, hk0.trans hk1⟩
  clear h1 hk1 hk0
  go_wp2_with fail
  refine (own_any w1 oa na ca xs HNA.out (HA.out.keepsN d1.out.kept) (by have := HX.out; omega)).mono ?_
  rintro e w2 ⟨v, rfl, o1, n1, c1, rfl, hn1, ho1, hw1, hk2⟩
  go_wp2_with fail
  refine (dn_append (s' := st (S0 ⟨xs, 0⟩) (-1) 0) (er := 0) tS o1 n1 c1 xs (d1.out.beside hk2) (by show counted (st [] (-1) 0) (appendOn nS xs) = _; rw [cnt_none, app_none _ rfl rfl (by decide), s_p0]) tS_max hn1.out ho1.sl (fun k hk h => by have := d1.out.is.lt _ h; have := hw1 k hk; omega) (by have := HX.out; omega) (fun f hf => by cases hf)).mono ?_
  rintro e w3 ⟨rfl, h3, hk3⟩
  have d3 : Hid (Dn w w3 p _ _) := h3
  clear h3 hk3 d1 ho1 hw1 hk2
  go_wp2_with fail
  refine (dn_sync (s' := st (S0 ⟨xs, xs.length⟩) (-1) 0) (er := 0) tS d3.out (by show counted (st (S0 ⟨xs, 0⟩) (-1) 0) (syncOn nS) = _; rw [cnt_none, syn_some (f := ⟨xs, 0⟩) rfl, s_p00]) tS_max).mono ?_
  rintro e w4 ⟨rfl, h4, hk4⟩
  have d4 : Hid (Dn w w4 p _ _) := h4
  clear h4 hk4 d3
  go_wp2_with fail
  refine (dn_append (s' := st (S1 jF ⟨xs, xs.length⟩) (-1) 0) (er := 0) tJ _ 1 1 [106] (d4.out.beside (keeps_alloc _ _)) (by show counted (st (S0 ⟨xs, xs.length⟩) (-1) 0) (appendOn nJ [106]) = _; rw [cnt_none, app_none _ rfl rfl (by show 1 < 16; omega), s_p1]; rfl) tJ_max rfl (lit_sl w4 [106] 1 (1, 2) (by decide)) (fun k hk => by rw [in_some hk]; intro h; have := d4.out.is.lt _ h; omega) (by decide) (fun f hf => by cases hf)).mono ?_
  rintro e w5 ⟨rfl, h5, hk5⟩
  have d5 : Hid (Dn w w5 p _ _) := h5
  clear h5 hk5 d4
  go_wp2_with fail
  refine (dn_arm (s' := st (S1 jF ⟨xs, xs.length⟩) (4) keep) _ _ d5.out (arm_st _ _ _ _ _ (by omega)) HMI.out HKI.out).mono ?_
  rintro e w6 ⟨rfl, h6, hk6⟩
  have d6 : Hid (Dn w w6 p _ _) := h6
  clear h6 hk6 d5
  by_cases hlen : 0 < nb
  · have hrem := HC.out hlen
    go_wp2_with fail
    refine (own_any w6 ob C cb (ys.take C) HL1.out (HS1.out.keepsN d6.out.kept) (by have := HY.out; rw [List.length_take]; omega)).mono ?_
    rintro e w7 ⟨v, rfl, o2, n2, c2, rfl, hn2, ho2, hw2, hk7⟩
    go_wp2_with fail
    refine (dn_append (s' := st (S2 jF ⟨xs, xs.length⟩ ⟨(ys.take C), 0⟩) (3) keep) (er := 0) tT o2 n2 c2 (ys.take C) (d6.out.beside hk7) (by show counted (st _ _ _) (appendOn nT _) = _; rw [cnt_pos (by omega), app_none _ rfl rfl (by show 2 < 16; omega), s_p2]; rfl) tT_max hn2.out ho2.sl (fun k hk h => by have := d6.out.is.lt _ h; have := hw2 k hk; omega) (by have := HY.out; rw [List.length_take]; omega) (fun f hf => by rw [show tick (st (S1 jF ⟨xs, xs.length⟩) _ keep) = _ from tick_pos (by omega)] at hf; cases hf)).mono ?_
    rintro e w8 ⟨rfl, h8, hk8⟩
    have d8 : Hid (Dn w w8 p _ _) := h8
    clear h8 hk8 d6 ho2 hw2 hk7
    go_wp2_with fail
    refine (own_any w8 A2 (nb - C) d2 (ys.drop C) HL2.out (HS2.out.keepsN d8.out.kept) (by have := HY.out; rw [List.length_drop]; omega)).mono ?_
    rintro e w9 ⟨v, rfl, o3, n3, c3, rfl, hn3, ho3, hw3, hk9⟩
    go_wp2_with fail
    refine (dn_append (s' := st (S2 jF ⟨xs, xs.length⟩ ⟨ys, 0⟩) (2) keep) (er := 0) tT o3 n3 c3 (ys.drop C) (d8.out.beside hk9) (by show counted (st _ _ _) (appendOn nT _) = _; rw [cnt_pos (by omega), app_some (f := ⟨ys.take C, 0⟩) _ rfl rfl, s_p22]; show (st (S2 _ _ ⟨ys.take C ++ ys.drop C, 0⟩) _ _, _) = _; rw [List.take_append_drop]; rfl) tT_max hn3.out ho3.sl (fun k hk h => by have := d8.out.is.lt _ h; have := hw3 k hk; omega) (by have := HY.out; rw [List.length_drop]; omega) (fun f hf => by rw [show tick (st _ _ keep) = _ from tick_pos (by omega)] at hf; cases hf; have := HY.out; simp; omega)).mono ?_
    rintro e w10 ⟨rfl, h10, hk10⟩
    have d10 : Hid (Dn w w10 p _ _) := h10
    clear h10 hk10 d8 ho3 hw3 hk9
    go_wp2_with fail
    refine (dn_sync (s' := st (S2 jF ⟨xs, xs.length⟩ ⟨ys, ys.length⟩) (1) keep) (er := 0) tT d10.out (by show counted (st _ _ _) (syncOn nT) = _; rw [cnt_pos (by omega), syn_some (f := ⟨ys, 0⟩) rfl, s_p22]; rfl) tT_max).mono ?_
    rintro e w11 ⟨rfl, h11, hk11⟩
    have d11 : Hid (Dn w w11 p _ _) := h11
    clear h11 hk11 d10
    go_wp2_with fail
    refine (dn_rename (s' := st (S1 jF ⟨ys, ys.length⟩) (0) keep) (er := 0) tT tS d11.out (by show counted (st _ _ _) (renameOn nT nS) = _; rw [cnt_pos (by omega), ren_some (f := ⟨ys, ys.length⟩) rfl rfl, s_ren]; rfl) tT_max).mono ?_
    rintro e w12 ⟨rfl, h12, hk12⟩
    have d12 : Hid (Dn w w12 p _ _) := h12
    clear h12 hk12 d11
    go_wp2_with fail
    refine (dn_delete (s' := sd (S1 (crF keep jF) ⟨ys, ys.length⟩) keep) (er := 62) tJ d12.out (by show counted (st _ 0 _) _ = _; rw [cnt_zero, s_m1, crF_all]) tJ_max).mono ?_
    rintro e w13 ⟨rfl, h13, hk13⟩
    have d13 : Hid (Dn w w13 p _ _) := h13
    clear h13 hk13 d12
    go_wp2_with fail
    refine (dn_up (s' := st (S1 (crF keep jF) ⟨ys, ys.length⟩) (-1) keep) d13.out rfl).mono ?_
    rintro e w14 ⟨rfl, h14, hk14⟩
    have d14 : Hid (Dn w w14 p _ _) := h14
    clear h14 hk14 d13
    go_wp2_with fail
    refine (dn_read (s' := st (S1 (crF keep jF) ⟨ys, ys.length⟩) (-1) keep) (er := 0) (b := ys) tS d14.out (tick_none _ _) rfl rfl tS_max (by have := HX.out; have := HY.out; omega)).mono ?_
    rintro e w15 ⟨o4, c4, n4, rfl, hn4, ho4, hw4, h15, hk15⟩
    have d15 : Hid (Dn w w15 p _ _) := h15
    clear h15 hk15
    go_wp2_with fail
    refine (dn_read (s' := st (S1 (crF keep jF) ⟨ys, ys.length⟩) (-1) keep) (er := 61) (b := []) tT d15.out (tick_none _ _) rfl rfl tT_max (by have := HY.out; decide)).mono ?_
    rintro e w16 ⟨o5, c5, n5, rfl, hn5, ho5, hw5, h16, hk16⟩
    have HG : Hid (Own BE w16 o4 c4 ys) := (show _ from ho4.keeps hk16 (fun k hk h => by have := d14.out.is.lt _ h; have := hw4 k hk; omega))
    have HTM : Hid (Own BE w16 o5 c5 []) := ho5
    have HK : Hid (Keeps no w w16) := h16.kept
    clear h16 hk16 d15 d14 ho4 hw4 ho5 hw5
    go_wp2_with (go_at_call 19; refine (same_any _ o4 n4 c4 ob nb cb ys ys hn4.out HNB.out HG.out.row (HB.out.row.keepsN HK.out)).mono ?_; rintro e w17 ⟨rfl, hw17⟩; subst w17)
    go_ret
    exact ⟨by simp, HK.out⟩
  · have hC0 := HC0.out hlen
    subst hC0
    go_wp2_with fail
    refine (own_any w6 ob 0 cb (ys.take 0) HL1.out (HS1.out.keepsN d6.out.kept) (by have := HY.out; rw [List.length_take]; omega)).mono ?_
    rintro e w7 ⟨v, rfl, o2, n2, c2, rfl, hn2, ho2, hw2, hk7⟩
    go_wp2_with fail
    refine (dn_append (s' := st (S2 jF ⟨xs, xs.length⟩ ⟨(ys.take 0), 0⟩) (3) keep) (er := 0) tT o2 n2 c2 (ys.take 0) (d6.out.beside hk7) (by show counted (st _ _ _) (appendOn nT _) = _; rw [cnt_pos (by omega), app_none _ rfl rfl (by show 2 < 16; omega), s_p2]; rfl) tT_max hn2.out ho2.sl (fun k hk h => by have := d6.out.is.lt _ h; have := hw2 k hk; omega) (by have := HY.out; rw [List.length_take]; omega) (fun f hf => by rw [show tick (st (S1 jF ⟨xs, xs.length⟩) _ keep) = _ from tick_pos (by omega)] at hf; cases hf)).mono ?_
    rintro e w8 ⟨rfl, h8, hk8⟩
    have d8 : Hid (Dn w w8 p _ _) := h8
    clear h8 hk8 d6 ho2 hw2 hk7
    go_wp2_with fail
    refine (own_any w8 ob nb cb (ys.drop 0) HNB.out (HB.out.keepsN d8.out.kept) (by have := HY.out; rw [List.length_drop]; omega)).mono ?_
    rintro e w9 ⟨v, rfl, o3, n3, c3, rfl, hn3, ho3, hw3, hk9⟩
    go_wp2_with fail
    refine (dn_append (s' := st (S2 jF ⟨xs, xs.length⟩ ⟨ys, 0⟩) (2) keep) (er := 0) tT o3 n3 c3 (ys.drop 0) (d8.out.beside hk9) (by show counted (st _ _ _) (appendOn nT _) = _; rw [cnt_pos (by omega), app_some (f := ⟨ys.take 0, 0⟩) _ rfl rfl, s_p22]; show (st (S2 _ _ ⟨ys.take 0 ++ ys.drop 0, 0⟩) _ _, _) = _; rw [List.take_append_drop]; rfl) tT_max hn3.out ho3.sl (fun k hk h => by have := d8.out.is.lt _ h; have := hw3 k hk; omega) (by have := HY.out; rw [List.length_drop]; omega) (fun f hf => by rw [show tick (st _ _ keep) = _ from tick_pos (by omega)] at hf; cases hf; have := HY.out; simp; omega)).mono ?_
    rintro e w10 ⟨rfl, h10, hk10⟩
    have d10 : Hid (Dn w w10 p _ _) := h10
    clear h10 hk10 d8 ho3 hw3 hk9
    go_wp2_with fail
    refine (dn_sync (s' := st (S2 jF ⟨xs, xs.length⟩ ⟨ys, ys.length⟩) (1) keep) (er := 0) tT d10.out (by show counted (st _ _ _) (syncOn nT) = _; rw [cnt_pos (by omega), syn_some (f := ⟨ys, 0⟩) rfl, s_p22]; rfl) tT_max).mono ?_
    rintro e w11 ⟨rfl, h11, hk11⟩
    have d11 : Hid (Dn w w11 p _ _) := h11
    clear h11 hk11 d10
    go_wp2_with fail
    refine (dn_rename (s' := st (S1 jF ⟨ys, ys.length⟩) (0) keep) (er := 0) tT tS d11.out (by show counted (st _ _ _) (renameOn nT nS) = _; rw [cnt_pos (by omega), ren_some (f := ⟨ys, ys.length⟩) rfl rfl, s_ren]; rfl) tT_max).mono ?_
    rintro e w12 ⟨rfl, h12, hk12⟩
    have d12 : Hid (Dn w w12 p _ _) := h12
    clear h12 hk12 d11
    go_wp2_with fail
    refine (dn_delete (s' := sd (S1 (crF keep jF) ⟨ys, ys.length⟩) keep) (er := 62) tJ d12.out (by show counted (st _ 0 _) _ = _; rw [cnt_zero, s_m1, crF_all]) tJ_max).mono ?_
    rintro e w13 ⟨rfl, h13, hk13⟩
    have d13 : Hid (Dn w w13 p _ _) := h13
    clear h13 hk13 d12
    go_wp2_with fail
    refine (dn_up (s' := st (S1 (crF keep jF) ⟨ys, ys.length⟩) (-1) keep) d13.out rfl).mono ?_
    rintro e w14 ⟨rfl, h14, hk14⟩
    have d14 : Hid (Dn w w14 p _ _) := h14
    clear h14 hk14 d13
    go_wp2_with fail
    refine (dn_read (s' := st (S1 (crF keep jF) ⟨ys, ys.length⟩) (-1) keep) (er := 0) (b := ys) tS d14.out (tick_none _ _) rfl rfl tS_max (by have := HX.out; have := HY.out; omega)).mono ?_
    rintro e w15 ⟨o4, c4, n4, rfl, hn4, ho4, hw4, h15, hk15⟩
    have d15 : Hid (Dn w w15 p _ _) := h15
    clear h15 hk15
    go_wp2_with fail
    refine (dn_read (s' := st (S1 (crF keep jF) ⟨ys, ys.length⟩) (-1) keep) (er := 61) (b := []) tT d15.out (tick_none _ _) rfl rfl tT_max (by have := HY.out; decide)).mono ?_
    rintro e w16 ⟨o5, c5, n5, rfl, hn5, ho5, hw5, h16, hk16⟩
    have HG : Hid (Own BE w16 o4 c4 ys) := (show _ from ho4.keeps hk16 (fun k hk h => by have := d14.out.is.lt _ h; have := hw4 k hk; omega))
    have HTM : Hid (Own BE w16 o5 c5 []) := ho5
    have HK : Hid (Keeps no w w16) := h16.kept
    clear h16 hk16 d15 d14 ho4 hw4 ho5 hw5
    go_wp2_with (go_at_call 19; refine (same_any _ o4 n4 c4 ob nb cb ys ys hn4.out HNB.out HG.out.row (HB.out.row.keepsN HK.out)).mono ?_; rintro e w17 ⟨rfl, hw17⟩; subst w17)
    go_ret
    exact ⟨by simp, HK.out⟩
end Go.Proofs.Ytgobakfffobpkaa
