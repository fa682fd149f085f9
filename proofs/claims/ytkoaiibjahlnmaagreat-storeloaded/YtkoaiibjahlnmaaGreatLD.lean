import Derived.Test.YtkoaiibjahlnmaaGreatKD
/- StoreLoaded. -/
namespace Go.Proofs.YtkoaiibjahlnmaaGreat
open Go.RowKit Go.Maps Go.Sort Orl
set_option linter.unusedVariables false
set_option linter.unusedSimpArgs false

set_option maxRecDepth 10000 in
set_option maxHeartbeats 4000000 in
theorem loaded_any (w : World) (a : Option Addr) (n c : Nat) (xs : List RV) (hn : n = xs.length) (hl : xs.length ≤ 140737488355328) (hs : Sl RE w a c xs) (hr : ∀ r ∈ xs, OkR r) (a' : Option Addr) (n' c' : Nat) (ys : List RV) (hn' : n' = ys.length) (hl' : ys.length ≤ 140737488355328) (hs' : Sl RE w a' c' ys) (hr' : ∀ r ∈ ys, OkR r) :
    Calls Tryz.prog 4 #[.slice a n c, .slice a' n' c'] w fun e w' => e = .returned (.bool true) ∧ Keeps no w w' := by
  have HX : Hid (∀ w1 p s N P, Ow w w1 p s N P → N ≤ 1000 → Calls Tryz.prog 17 #[.pointer (some ⟨p, 0, none⟩), .slice a n c, .int .i64 0] w1 fun e w' => e = .returned (.tuple #[]) ∧ Hid (SI w w1 p s N P xs 0 (min n 100) w')) := fun w1 p s N P ho hN => steps_any ho (by omega) a n c xs hn hl (fun X hX => hs.keepsN hX) hr 0 (by omega) (by omega)
  have HY : Hid (∀ w1 p s N P, Ow w w1 p s N P → N ≤ 1000 → Calls Tryz.prog 17 #[.pointer (some ⟨p, 0, none⟩), .slice a' n' c', .int .i64 500] w1 fun e w' => e = .returned (.tuple #[]) ∧ Hid (SI w w1 p s N P ys 500 (min n' 100) w')) := fun w1 p s N P ho hN => steps_any ho (by omega) a' n' c' ys hn' hl' (fun X hX => hs'.keepsN hX) hr' 500 (by omega) (by omega)
  have hN := ow_new w
  clear hn hl hs hr hn' hl' hs' hr'
  go_enter Tryz.func4, Tryz.ntmps4
  go_wp2_with fail
  refine hN.mono ?_
  rintro e w1 ⟨p, rfl, H1⟩
  clear hN
  go_wp2_with fail
  refine (known_any w1).mono ?_
  rintro e w2 ⟨rfl, hk2⟩
  have H2 : Hid (Ow w w2 p St.new 0 no) := H1.out.go hk2
  clear hk2 H1
  go_wp2_with fail
  refine (HX.out _ _ _ _ _ H2.out (by omega)).mono ?_
  rintro e w3 ⟨rfl, h3⟩
  obtain ⟨s, hs⟩ : ∃ s, s = stepsS St.new xs 0 (min n 100) := ⟨_, rfl⟩
  have H3 : Hid (∃ N, N ≤ 300 ∧ Ow w w3 p s N no) := by
    obtain ⟨N, hN, ho⟩ := h3.out.ow
    rw [← hs] at ho
    exact ⟨N, by omega, ho⟩
  clear h3 hs H2 HX
  obtain ⟨N, hN, ho⟩ := H3.out
  have HO : Hid (Ow w w3 p s N no ∧ N ≤ 300) := ⟨ho, hN⟩
  clear hN ho H3
  go_wp2_with fail
  refine (HO.out.1.keptK (by have := HO.out.2; omega)).mono ?_
  rintro e w4 ⟨o4, n4, c4, ks, rfl, h4⟩
  have H4 : Hid (Kd s ks o4 n4 c4 w4 ∧ Ow w w4 p s N no ∧ ks.length ≤ N ∧ N ≤ 300) := ⟨h4.out.1, HO.out.1.go h4.out.2.2.1, h4.out.2.2.2, HO.out.2⟩
  clear h4 HO
  go_wp2_with fail
  refine (H4.out.2.1.lastsK (by have := H4.out.2.2.2; omega)).mono ?_
  rintro e w5 ⟨o5, n5, c5, ls, rfl, h5⟩
  have H5 : Hid (Kd s ks o4 n4 c4 w5 ∧ Ld s ls o5 n5 c5 w5 ∧ Ow w w5 p s N no ∧ ks.length ≤ N ∧ N ≤ 300) := ⟨H4.out.1.keepsN h5.out.2.2.1, h5.out.1, H4.out.2.1.go h5.out.2.2.1, H4.out.2.2.1, H4.out.2.2.2⟩
  clear h5 H4
  go_wp2_with fail
  refine (load_same H5.out.1 H5.out.2.1).mono ?_
  rintro e w6 ⟨q, rfl, h6⟩
  have H6 : Hid (∃ M, Tw w w6 p s N q s M no ∧ M ≤ 300 ∧ N ≤ 300) := ⟨_, Tw.made H5.out.2.2.1 h6.out, by have := H5.out.2.2.2; omega, H5.out.2.2.2.2⟩
  obtain ⟨M, h6'⟩ := H6.out
  have H7 : Hid (Tw w w6 p s N q s M no ∧ M ≤ 300 ∧ N ≤ 300) := h6'
  clear h6 h6' H5 H6
  go_wp2_with fail
  refine (H7.out.1.first.keptK (by have := H7.out.2; omega)).mono ?_
  rintro e w8 ⟨o8, n8, c8, k8, rfl, h8⟩
  have H8 : Hid (Kd s k8 o8 n8 c8 w8 ∧ Tw w w8 p s N q s M no ∧ M ≤ 300 ∧ N ≤ 300) := ⟨h8.out.1, H7.out.1.go h8.out.2.2.1, H7.out.2⟩
  clear h8 H7
  go_wp2_with fail
  refine (H8.out.2.1.swap.first.keptK (by have := H8.out.2.2; omega)).mono ?_
  rintro e w9 ⟨o9, n9, c9, k9, rfl, h9⟩
  have H9 : Hid (Kd s k8 o8 n8 c8 w9 ∧ Kd s k9 o9 n9 c9 w9 ∧ Tw w w9 p s N q s M no ∧ M ≤ 300 ∧ N ≤ 300) := ⟨H8.out.1.keepsN h9.out.2.2.1, h9.out.1, H8.out.2.1.go h9.out.2.2.1, H8.out.2.2⟩
  clear h9 H8
  go_wp2_with fail
  refine (sameKd (fun _ => rfl) H9.out.1 H9.out.2.1).mono ?_
  rintro e w10 ⟨rfl, hk10⟩
  have H10 : Hid (Tw w w10 p s N q s M no ∧ M ≤ 300 ∧ N ≤ 300) := ⟨H9.out.2.2.1.go hk10, H9.out.2.2.2⟩
  clear hk10 H9
  go_wp2_with fail
  refine (H10.out.1.first.lastsK (by have := H10.out.2; omega)).mono ?_
  rintro e w11 ⟨o11, n11, c11, l11, rfl, h11⟩
  have H11 : Hid (Ld s l11 o11 n11 c11 w11 ∧ Tw w w11 p s N q s M no ∧ M ≤ 300 ∧ N ≤ 300) := ⟨h11.out.1, H10.out.1.go h11.out.2.2.1, H10.out.2⟩
  clear h11 H10
  go_wp2_with fail
  refine (H11.out.2.1.swap.first.lastsK (by have := H11.out.2.2; omega)).mono ?_
  rintro e w12 ⟨o12, n12, c12, l12, rfl, h12⟩
  have H12 : Hid (Ld s l11 o11 n11 c11 w12 ∧ Ld s l12 o12 n12 c12 w12 ∧ Tw w w12 p s N q s M no ∧ M ≤ 300 ∧ N ≤ 300) := ⟨H11.out.1.keepsN h12.out.2.2.1, h12.out.1, H11.out.2.1.go h12.out.2.2.1, H11.out.2.2⟩
  clear h12 H11
  go_wp2_with fail
  refine (sameLd (fun _ => rfl) H12.out.1 H12.out.2.1).mono ?_
  rintro e w13 ⟨rfl, hk13⟩
  have H13 : Hid (Tw w w13 p s N q s M no ∧ M ≤ 300 ∧ N ≤ 300) := ⟨H12.out.2.2.1.go hk13, H12.out.2.2.2⟩
  clear hk13 H12
  obtain ⟨P1, ho1, _, hb1⟩ := H13.out.1.left
  have HL1 : Hid (Ow w w13 p s N P1 ∧ (∀ w2 s2 N2, Ow w w2 p s2 N2 P1 → Keeps (fun b => ¬ P1 b) w13 w2 → Tw w w2 p s2 N2 q s M no) ∧ M ≤ 300 ∧ N ≤ 300) := ⟨ho1, hb1, H13.out.2⟩
  clear ho1 hb1 H13
  go_wp2_with fail
  refine (HY.out _ _ _ _ _ HL1.out.1 (by have := HL1.out.2.2; omega)).mono ?_
  rintro e w14 ⟨rfl, h14⟩
  obtain ⟨s2, hs2⟩ : ∃ s2, s2 = stepsS s ys 500 (min n' 100) := ⟨_, rfl⟩
  have H14 : Hid (∃ N2, Tw w w14 p s2 N2 q s M no ∧ M ≤ 300 ∧ N2 ≤ 600) := by
    obtain ⟨N2, hN2, ho2⟩ := h14.out.ow
    rw [← hs2] at ho2
    exact ⟨N2, HL1.out.2.1 _ _ _ ho2 h14.out.kp, HL1.out.2.2.1, by have := HL1.out.2.2.2; omega⟩
  obtain ⟨N2, h14'⟩ := H14.out
  have H15 : Hid (Tw w w14 p s2 N2 q s M no ∧ M ≤ 300 ∧ N2 ≤ 600) := h14'
  have HS2 : Hid (s2 = stepsS s ys 500 (min n' 100)) := hs2
  clear h14 h14' H14 HL1 hs2
  obtain ⟨P2, ho3, _, hb3⟩ := H15.out.1.swap.left
  have HL2 : Hid (Ow w w14 q s M P2 ∧ (∀ w2 s3 N3, Ow w w2 q s3 N3 P2 → Keeps (fun b => ¬ P2 b) w14 w2 → Tw w w2 q s3 N3 p s2 N2 no) ∧ M ≤ 300 ∧ N2 ≤ 600) := ⟨ho3, hb3, H15.out.2⟩
  clear ho3 hb3 H15
  go_wp2_with fail
  refine (HY.out _ _ _ _ _ HL2.out.1 (by have := HL2.out.2.2; omega)).mono ?_
  rintro e w15 ⟨rfl, h15⟩
  have H16 : Hid (∃ M2, Tw w w15 p s2 N2 q s2 M2 no ∧ M2 ≤ 600 ∧ N2 ≤ 600) := by
    obtain ⟨M2, hM2, ho2⟩ := h15.out.ow
    rw [← HS2.out] at ho2
    exact ⟨M2, (HL2.out.2.1 _ _ _ ho2 h15.out.kp).swap, by have := HL2.out.2.2.1; omega, HL2.out.2.2.2⟩
  obtain ⟨M2, h16'⟩ := H16.out
  have H17 : Hid (Tw w w15 p s2 N2 q s2 M2 no ∧ M2 ≤ 600 ∧ N2 ≤ 600) := h16'
  clear h15 h16' H16 HL2 HS2 HY
  go_wp2_with fail
  refine (H17.out.1.first.keptK (by have := H17.out.2; omega)).mono ?_
  rintro e w18 ⟨o18, n18, c18, k18, rfl, h18⟩
  have H18 : Hid (Kd s2 k18 o18 n18 c18 w18 ∧ Tw w w18 p s2 N2 q s2 M2 no ∧ M2 ≤ 600 ∧ N2 ≤ 600) := ⟨h18.out.1, H17.out.1.go h18.out.2.2.1, H17.out.2⟩
  clear h18 H17
  go_wp2_with fail
  refine (H18.out.2.1.swap.first.keptK (by have := H18.out.2.2; omega)).mono ?_
  rintro e w19 ⟨o19, n19, c19, k19, rfl, h19⟩
  have H19 : Hid (Kd s2 k18 o18 n18 c18 w19 ∧ Kd s2 k19 o19 n19 c19 w19 ∧ Tw w w19 p s2 N2 q s2 M2 no ∧ M2 ≤ 600 ∧ N2 ≤ 600) := ⟨H18.out.1.keepsN h19.out.2.2.1, h19.out.1, H18.out.2.1.go h19.out.2.2.1, H18.out.2.2⟩
  clear h19 H18
  go_wp2_with fail
  refine (sameKd (fun _ => rfl) H19.out.1 H19.out.2.1).mono ?_
  rintro e w20 ⟨rfl, hk20⟩
  have H20 : Hid (Tw w w20 p s2 N2 q s2 M2 no ∧ M2 ≤ 600 ∧ N2 ≤ 600) := ⟨H19.out.2.2.1.go hk20, H19.out.2.2.2⟩
  clear hk20 H19
  go_wp2_with fail
  refine (H20.out.1.first.lastsK (by have := H20.out.2; omega)).mono ?_
  rintro e w21 ⟨o21, n21, c21, l21, rfl, h21⟩
  have H21 : Hid (Ld s2 l21 o21 n21 c21 w21 ∧ Tw w w21 p s2 N2 q s2 M2 no ∧ M2 ≤ 600 ∧ N2 ≤ 600) := ⟨h21.out.1, H20.out.1.go h21.out.2.2.1, H20.out.2⟩
  clear h21 H20
  go_wp2_with fail
  refine (H21.out.2.1.swap.first.lastsK (by have := H21.out.2.2; omega)).mono ?_
  rintro e w22 ⟨o22, n22, c22, l22, rfl, h22⟩
  have H22 : Hid (Ld s2 l21 o21 n21 c21 w22 ∧ Ld s2 l22 o22 n22 c22 w22 ∧ Tw w w22 p s2 N2 q s2 M2 no) := ⟨H21.out.1.keepsN h22.out.2.2.1, h22.out.1, H21.out.2.1.go h22.out.2.2.1⟩
  clear h22 H21
  go_wp2_with fail
  refine (sameLd (fun _ => rfl) H22.out.1 H22.out.2.1).mono ?_
  rintro e w23 ⟨rfl, hk23⟩
  have H23 : Hid (Keeps no w w23) := H22.out.2.2.first.keep.trans hk23
  clear hk23 H22
  go_wp2_with fail
  go_ret
  exact ⟨rfl, H23.out⟩
end Go.Proofs.YtkoaiibjahlnmaaGreat
