import Derived.Test.YtpfbbfbghldmjaaC1
namespace Go.Proofs.Ytpfbbfbghldmjaa
open Go.RowKit Go.Sort Orl
set_option linter.unusedVariables false
set_option linter.unusedSimpArgs false

theorem sorted1 (w : World) : Calls Try.prog 19 #[.slice (some ⟨w.heap.size, 0, none⟩) 3 3] (w.alloc (.cells #[.string tB, .string tE, .string tA] 9)) fun e w' => ∃ v, e = .returned (.tuple #[v, .int .i64 0]) ∧ Gives TE w [tE, tA, tB] v w' := by
  have h := sorted_any _ _ 3 3 [tB, tE, tA] rfl (by unfold Small; simp) (fitT _ (by decide)) (litT w [tB, tE, tA])
  rw [val1, isT1] at h
  refine h.mono ?_
  rintro e w' ⟨v, rfl, o, n, c, rfl, hn, ho, hw, hk⟩
  exact ⟨_, rfl, o, n, c, rfl, hn, ho, hw.of_le (by simp), ((Keeps.refl _ w).alloc _).trans hk⟩
theorem sorted2 (w : World) : Calls Try.prog 19 #[.slice (some ⟨w.heap.size, 0, none⟩) 2 2] (w.alloc (.cells #[.string tA, .string tA] 9)) fun e w' => ∃ v, e = .returned (.tuple #[v, .int .i64 40]) ∧ Keeps no w w' := by
  have h := sorted_any _ _ 2 2 [tA, tA] rfl (by unfold Small; simp) (fitT _ (by decide)) (litT w [tA, tA])
  rw [val2] at h
  refine h.mono ?_
  rintro e w' ⟨v, rfl, o, n, c, rfl, hn, ho, hw, hk⟩
  exact ⟨_, rfl, ((Keeps.refl _ w).alloc _).trans hk⟩
theorem norm1 (w : World) : Calls Try.prog 17 #[.slice (some ⟨w.heap.size, 0, none⟩) 2 2] (w.alloc (.cells #[.string tB, .string t1, .string tA, .string t2] 34)) fun e w' => ∃ v, e = .returned (.tuple #[v, .int .i64 0]) ∧ Gives PE w [(tA, t2), (tB, t1)] v w' := by
  have h := norm_any _ _ 2 2 [(tB, t1), (tA, t2)] rfl (by simp) (fitP _ (by decide)) (litP w [(tB, t1), (tA, t2)])
  rw [val4, nrm1] at h
  refine h.mono ?_
  rintro e w' ⟨v, rfl, o, n, c, rfl, hn, ho, hw, hk⟩
  exact ⟨_, rfl, o, n, c, rfl, hn, ho, hw.of_le (by simp), ((Keeps.refl _ w).alloc _).trans hk⟩
theorem two1 (w : World) (fn : Nat) (l : List Tx) (h : ∀ (w : World) (oa : Option Addr) (na ca : Nat) (ob : Option Addr) (nb cb : Nat), na = 2 → nb = 2 → Sl TE w oa ca [tA, tC] → Sl TE w ob cb [tB, tC] → Calls Try.prog fn #[.slice oa na ca, .slice ob nb cb] w fun e w' => Two w [tA, tC] [tB, tC] l e w') :
    Calls Try.prog fn #[.slice (some ⟨w.heap.size, 0, none⟩) 2 2, .slice (some ⟨w.heap.size + 1, 0, none⟩) 2 2] ((w.alloc (.cells #[.string tA, .string tC] 9)).alloc (.cells #[.string tB, .string tC] 9)) fun e w' => ∃ v, e = .returned (.tuple #[v, .int .i64 0]) ∧ Gives TE w l v w' := by
  have h := h ((w.alloc (.cells #[.string tA, .string tC] 9)).alloc (.cells #[.string tB, .string tC] 9)) _ 2 2 _ 2 2 rfl rfl ((litT w [tA, tC]).keepsN ((Keeps.refl _ _).alloc _)) (litT2 w _ [tB, tC])
  unfold Two at h
  rw [rs1, rs2] at h
  refine h.mono ?_
  rintro e w' ⟨v, rfl, o, n, c, rfl, hn, ho, hw, hk⟩
  exact ⟨_, rfl, o, n, c, rfl, hn, ho, hw.of_le (by simp; omega), (((Keeps.refl _ w).alloc _).alloc _).trans hk⟩
theorem union1 (w : World) : Calls Try.prog 10 #[.slice (some ⟨w.heap.size, 0, none⟩) 2 2, .slice (some ⟨w.heap.size + 1, 0, none⟩) 2 2] ((w.alloc (.cells #[.string tA, .string tC] 9)).alloc (.cells #[.string tB, .string tC] 9)) fun e w' => ∃ v, e = .returned (.tuple #[v, .int .i64 0]) ∧ Gives TE w [tA, tB, tC] v w' := two1 w 10 [tA, tB, tC] (fun w oa na ca ob nb cb h1 h2 s1 s2 => by
  have := union_any w oa na ca ob nb cb [tA, tC] [tB, tC] h1 h2 (by simp) (by simp) s1 s2
  rwa [mg1] at this)
theorem common1 (w : World) : Calls Try.prog 12 #[.slice (some ⟨w.heap.size, 0, none⟩) 2 2, .slice (some ⟨w.heap.size + 1, 0, none⟩) 2 2] ((w.alloc (.cells #[.string tA, .string tC] 9)).alloc (.cells #[.string tB, .string tC] 9)) fun e w' => ∃ v, e = .returned (.tuple #[v, .int .i64 0]) ∧ Gives TE w [tC] v w' := two1 w 12 [tC] (fun w oa na ca ob nb cb h1 h2 s1 s2 => by
  have := common_any w oa na ca ob nb cb [tA, tC] [tB, tC] h1 h2 (by simp) (by simp) s1 s2
  rwa [mg2] at this)
theorem minus1 (w : World) : Calls Try.prog 13 #[.slice (some ⟨w.heap.size, 0, none⟩) 2 2, .slice (some ⟨w.heap.size + 1, 0, none⟩) 2 2] ((w.alloc (.cells #[.string tA, .string tC] 9)).alloc (.cells #[.string tB, .string tC] 9)) fun e w' => ∃ v, e = .returned (.tuple #[v, .int .i64 0]) ∧ Gives TE w [tA] v w' := two1 w 13 [tA] (fun w oa na ca ob nb cb h1 h2 s1 s2 => by
  have := minus_any w oa na ca ob nb cb [tA, tC] [tB, tC] h1 h2 (by simp) (by simp) s1 s2
  rwa [mg3] at this)

/-- same, where the two are one -/
theorem same_lit (w : World) (o : Option Addr) (n c : Nat) (l : List Tx) (m : Nat) (hm : m = l.length) (hn : n = l.length) (hl : Small l) (ho : Own TE w o c l) (vs : Array Value) (hvs : vs = (l.map Value.string).toArray) :
    Calls Try.prog 14 #[.slice o n c, .slice (some ⟨w.heap.size, 0, none⟩) m m] (w.alloc (.cells vs 9)) fun e w' => e = .returned (.bool true) ∧ Keeps no w w' := by
  subst hm hvs
  refine (same_any _ o n c _ l.length l.length l l hn rfl hl hl (ho.sl.keepsN ((Keeps.refl _ _).alloc _)) (litT w l)).mono ?_
  rintro e w' ⟨⟨B, rfl, hB⟩, hk⟩
  rw [hB.out.2 rfl]
  exact ⟨rfl, ((Keeps.refl _ w).alloc _).trans hk⟩
theorem samePairs_lit (w : World) (o : Option Addr) (n c : Nat) (l : List Pr) (m : Nat) (hm : m = l.length) (hn : n = l.length) (hl : Small l) (ho : Own PE w o c l) (vs : Array Value) (hvs : vs = (PE.cells l).toArray) :
    Calls Try.prog 21 #[.slice o n c, .slice (some ⟨w.heap.size, 0, none⟩) m m] (w.alloc (.cells vs 34)) fun e w' => e = .returned (.bool true) ∧ Keeps no w w' := by
  subst hm hvs
  refine (samePairs_any _ o n c _ l.length l.length l l hn rfl hl hl (ho.sl.keepsN ((Keeps.refl _ _).alloc _)) (litP w l)).mono ?_
  rintro e w' ⟨⟨B, rfl, hB⟩, hk⟩
  rw [hB.out.2 rfl]
  exact ⟨rfl, ((Keeps.refl _ w).alloc _).trans hk⟩

set_option maxHeartbeats 4000000 in
set_option maxRecDepth 10000 in
theorem alive_any (w : World) : Calls Try.prog 8 #[] w fun e w' => e = .returned (.bool true) ∧ Keeps no w w' := by
  go_enter Try.func8, Try.ntmps8
  go_wp2_with fail
  refine (sorted1 w).mono ?_
  rintro e w1 ⟨v, rfl, oa, na, ca, rfl, hna, hoa, hwa, k1⟩
  go_wp2_with fail
  refine (norm1 w1).mono ?_
  rintro e w2 ⟨v, rfl, on, nn, cn, rfl, hnn, hon, hwn, k2⟩
  go_wp2_with fail
  refine (union1 w2).mono ?_
  rintro e w3 ⟨v, rfl, ou, nu, cu, rfl, hnu, hou, hwu, k3⟩
  go_wp2_with fail
  refine (common1 w3).mono ?_
  rintro e w4 ⟨v, rfl, oc, nc, cc, rfl, hnc, hoc, hwc, k4⟩
  go_wp2_with fail
  refine (minus1 w4).mono ?_
  rintro e w5 ⟨v, rfl, om, nm, cm, rfl, hnm, hom, hwm, k5⟩
  go_wp2_with fail
  refine (sorted2 w5).mono ?_
  rintro e w6 ⟨v, rfl, k6⟩
  have A6 : Hid (Own TE w6 oa ca [tE, tA, tB]) := (((((hoa.keepsN k2).keepsN k3).keepsN k4).keepsN k5).keepsN k6)
  have N6 : Hid (Own PE w6 on cn [(tA, t2), (tB, t1)]) := ((((hon.keepsN k3).keepsN k4).keepsN k5).keepsN k6)
  have U6 : Hid (Own TE w6 ou cu [tA, tB, tC]) := (((hou.keepsN k4).keepsN k5).keepsN k6)
  have C6 : Hid (Own TE w6 oc cc [tC]) := ((hoc.keepsN k5).keepsN k6)
  have M6 : Hid (Own TE w6 om cm [tA]) := (hom.keepsN k6)
  have K6 : Hid (Keeps no w w6) := ((((k1.trans k2).trans k3).trans k4).trans k5).trans k6
  clear hoa hon hou hoc hom hwa hwn hwu hwc hwm k1 k2 k3 k4 k5 k6
  go_wp2_with fail
  refine (same_lit w6 oa na ca _ 3 rfl hna.out (by unfold Small; simp) A6.out _ rfl).mono ?_
  rintro e w7 ⟨rfl, k7⟩
  have K7 : Hid (Keeps no w6 w7) := k7
  clear k7
  go_wp2_with fail
  refine (same_lit w7 ou nu cu _ 3 rfl hnu.out (by unfold Small; simp) (U6.out.keepsN K7.out) _ rfl).mono ?_
  rintro e w8 ⟨rfl, k8⟩
  have K8 : Hid (Keeps no w6 w8) := K7.out.trans k8
  clear k8
  go_wp2_with fail
  refine (same_lit w8 oc nc cc _ 1 rfl hnc.out (by unfold Small; simp) (C6.out.keepsN K8.out) _ rfl).mono ?_
  rintro e w9 ⟨rfl, k9⟩
  have K9 : Hid (Keeps no w6 w9) := K8.out.trans k9
  clear k9
  go_wp2_with fail
  refine (same_lit w9 om nm cm _ 1 rfl hnm.out (by unfold Small; simp) (M6.out.keepsN K9.out) _ rfl).mono ?_
  rintro e w10 ⟨rfl, k10⟩
  have K10 : Hid (Keeps no w6 w10) := K9.out.trans k10
  clear k10
  go_wp2_with fail
  refine (samePairs_lit w10 on nn cn _ 2 rfl hnn.out (by unfold Small; simp) (N6.out.keepsN K10.out) _ rfl).mono ?_
  rintro e w11 ⟨rfl, k11⟩
  have K11 : Hid (Keeps no w6 w11) := K10.out.trans k11
  clear k11
  go_wp2_with fail
  refine (names_any w11 on nn cn _ hnn.out (by unfold Small; simp) (N6.out.keepsN K11.out).sl).mono ?_
  rintro e w12 ⟨v, rfl, op, np, cp, rfl, hnp, hop, hwp, k12⟩
  have K12 : Hid (Keeps no w6 w12) := K11.out.trans k12
  clear k12
  go_wp2_with fail
  refine (same_lit w12 op np cp _ 2 rfl hnp.out (by unfold Small; simp [kys]) hop _ rfl).mono ?_
  rintro e w13 ⟨rfl, k13⟩
  have K13 : Hid (Keeps no w6 w13) := K12.out.trans k13
  clear k13
  have h14 := valid_any w13 oa na ca _ hna.out (by unfold Small; simp) (fitT _ (by decide)) (A6.out.keepsN K13.out).sl
  rw [val3] at h14
  go_wp2_with fail
  refine h14.mono ?_
  rintro e w14 ⟨rfl, k14⟩
  have K14 : Hid (Keeps no w6 w14) := K13.out.trans k14
  clear k14
  have h15 := validPairs_any w14 on nn cn _ hnn.out (by simp) (fitP _ (by decide)) (N6.out.keepsN K14.out).sl
  rw [val5] at h15
  go_wp2_with fail
  refine h15.mono ?_
  rintro e w15 ⟨rfl, k15⟩
  have K15 : Hid (Keeps no w6 w15) := K14.out.trans k15
  clear k15
  have h16 := rising_any w15 oa na ca _ hna.out (by unfold Small; simp) (A6.out.keepsN K15.out).sl
  rw [rs3] at h16
  go_wp2_with fail
  refine h16.mono ?_
  rintro e w16 ⟨rfl, k16⟩
  have K16 : Hid (Keeps no w6 w16) := K15.out.trans k16
  clear k16
  have h17 := has_any w16 oa na ca _ tB hna.out (by unfold Small; simp) (A6.out.keepsN K16.out).sl
  rw [rs3, inn1] at h17
  go_wp2_with fail
  refine h17.mono ?_
  rintro e w17 ⟨rfl, k17⟩
  have K17 : Hid (Keeps no w6 w17) := K16.out.trans k17
  clear k17
  have h18 := has_any w17 oa na ca _ tC hna.out (by unfold Small; simp) (A6.out.keepsN K17.out).sl
  rw [rs3, inn2] at h18
  go_wp2_with fail
  refine h18.mono ?_
  rintro e w18 ⟨rfl, k18⟩
  go_wp2_with fail
  go_ret
  exact ⟨rfl, K6.out.trans (K17.out.trans k18)⟩
end Go.Proofs.Ytpfbbfbghldmjaa
