import Derived.Test.YtkoaiibjahlnmaaGreatKH
/- StoreKeeps. -/
namespace Go.Proofs.YtkoaiibjahlnmaaGreat
open Go.RowKit Go.Maps Go.Sort Orl
set_option linter.unusedVariables false
set_option linter.unusedSimpArgs false

set_option maxRecDepth 10000 in
set_option maxHeartbeats 4000000 in
theorem keeps_any (w : World) (a : Option Addr) (n c : Nat) (xs : List RV) (hn : n = xs.length) (hl : xs.length ≤ 140737488355328) (hs : Sl RE w a c xs) (hr : ∀ r ∈ xs, OkR r) (x : Tx) (hx : x.size ≤ 140737488351232) :
    Calls Tryz.prog 5 #[.slice a n c, .string x] w fun e w' => e = .returned (.bool true) ∧ Keeps no w w' := by
  have HX : Hid (∀ w1 p s N P, Ow w w1 p s N P → N ≤ 1000 → Calls Tryz.prog 17 #[.pointer (some ⟨p, 0, none⟩), .slice a n c, .int .i64 0] w1 fun e w' => e = .returned (.tuple #[]) ∧ Hid (SI w w1 p s N P xs 0 (min n 100) w')) := fun w1 p s N P ho hN => steps_any ho (by omega) a n c xs hn hl (fun X hX => hs.keepsN hX) hr 0 (by omega) (by omega)
  have hN := ow_new w
  clear hn hl hs hr
  go_enter Tryz.func5, Tryz.ntmps5
  go_wp2_with fail
  refine hN.mono ?_
  rintro e w1 ⟨p, rfl, h1⟩
  clear hN
  go_wp2_with fail
  refine (ow_new w1).mono ?_
  rintro e w2 ⟨q, rfl, h2⟩
  have H2 : Hid (Tw w w2 p St.new 0 q St.new 0 no) := Tw.made h1.out h2.out
  clear h1 h2
  go_wp2_with fail
  refine (known_any w2).mono ?_
  rintro e w3 ⟨rfl, hk3⟩
  have H3 : Hid (Tw w w3 p St.new 0 q St.new 0 no) := H2.out.go hk3
  clear hk3 H2
  go_wp2_with fail
  refine (short_any x w3).mono ?_
  rintro e w' ⟨rfl, hw'⟩
  subst w'
  have HV : Hid ((shortT x).size ≤ 1000) := short_size x
  generalize shortT x = v at HV ⊢
  clear hx
  obtain ⟨P1, ho1, _, hb1⟩ := H3.out.left
  have HL1 : Hid (Ow w w3 p St.new 0 P1 ∧ ∀ w2 s2 N2, Ow w w2 p s2 N2 P1 → Keeps (fun b => ¬ P1 b) w3 w2 → Tw w w2 p s2 N2 q St.new 0 no) := ⟨ho1, hb1⟩
  clear ho1 hb1 H3
  go_wp2_with fail
  refine (HX.out _ _ _ _ _ HL1.out.1 (by omega)).mono ?_
  rintro e w4 ⟨rfl, h4⟩
  obtain ⟨s, hs⟩ : ∃ s, s = stepsS St.new xs 0 (min n 100) := ⟨_, rfl⟩
  have HS : Hid (SmallI s ∧ Ok s) := by
    obtain ⟨N, hN, ho⟩ := h4.out.ow
    rw [← hs] at ho
    exact ⟨by rw [hs]; exact small_steps xs 0 _, ho.ok⟩
  have H4 : Hid (∃ N, N ≤ 300 ∧ Tw w w4 p s N q St.new 0 no) := by
    obtain ⟨N, hN, ho⟩ := h4.out.ow
    rw [← hs] at ho
    exact ⟨N, by omega, HL1.out.2 _ _ _ ho h4.out.kp⟩
  clear h4 hs HL1 HX
  obtain ⟨N, hN, ho⟩ := H4.out
  have H5 : Hid (Tw w w4 p s N q St.new 0 no ∧ N ≤ 300) := ⟨ho, hN⟩
  clear hN ho H4
  go_wp2_with fail
  have H6 : Hid (Tw w ((w4.alloc (.cells #[.string ⟨#[97]⟩, .string ⟨#[98]⟩, .string ⟨#[115, 112, 97, 114, 101]⟩] 9)).alloc (.cells #[.string ⟨#[97]⟩, .string v, .string ⟨#[98]⟩, .string v, .string ⟨#[115, 112, 97, 114, 101]⟩, .string ⟨#[]⟩] 57)) p s N q St.new 0 (fun b => b = w4.heap.size ∨ b = w4.heap.size + 1) ∧ Hd ((w4.alloc (.cells #[.string ⟨#[97]⟩, .string ⟨#[98]⟩, .string ⟨#[115, 112, 97, 114, 101]⟩] 9)).alloc (.cells #[.string ⟨#[97]⟩, .string v, .string ⟨#[98]⟩, .string v, .string ⟨#[115, 112, 97, 114, 101]⟩, .string ⟨#[]⟩] 57)) w4.heap.size (w4.heap.size + 1) v ∧ N ≤ 300) := by
    refine ⟨(H5.out.1.grow (((Keeps.refl no w4).alloc _).alloc _)).sub (fun b hb => .inr ?_), ⟨?_, ?_⟩, H5.out.2⟩
    · simp; omega
    · exact ((Keeps.refl no _).alloc _).at (blk_new w4 _) id
    · have := blk_new (w4.alloc (.cells #[.string ⟨#[97]⟩, .string ⟨#[98]⟩, .string ⟨#[115, 112, 97, 114, 101]⟩] 9)) (.cells #[.string ⟨#[97]⟩, .string v, .string ⟨#[98]⟩, .string v, .string ⟨#[115, 112, 97, 114, 101]⟩, .string ⟨#[]⟩] 57)
      rwa [show (w4.alloc (.cells #[.string ⟨#[97]⟩, .string ⟨#[98]⟩, .string ⟨#[115, 112, 97, 114, 101]⟩] 9)).heap.size = w4.heap.size + 1 by simp] at this
  clear H5
  generalize (w4.alloc (.cells #[.string ⟨#[97]⟩, .string ⟨#[98]⟩, .string ⟨#[115, 112, 97, 114, 101]⟩] 9)).alloc (.cells #[.string ⟨#[97]⟩, .string v, .string ⟨#[98]⟩, .string v, .string ⟨#[115, 112, 97, 114, 101]⟩, .string ⟨#[]⟩] 57) = w5 at H6 ⊢
  generalize w4.heap.size = K at H6 ⊢
  go_region_held3 (fun X => True) (trivial) ((go_at_call 21; refine (Tw.putS (H6.out.1.go (Keeps.refl no w5).drew) (H6.out.2.1.keeps (Keeps.refl no w5).drew id id) (.inl rfl) (.inr rfl) HV.out (by have := H6.out.2.2; omega)).mono ?_; rintro e w6 ⟨B6, rfl, h6⟩))
  obtain ⟨N6, hN6⟩ : ∃ N6, N6 = N + (miss s 1099511627776 (psS v)).length := ⟨_, rfl⟩
  obtain ⟨s6, hs6⟩ : ∃ s6, s6 = putAll 1099511627776 kAB 1000 s (miss s 1099511627776 (psS v)) := ⟨_, rfl⟩
  have H7 : Hid (Tw w w6 p s6 N6 q St.new 0 (fun b => b = K ∨ b = K + 1) ∧ Hd w6 K (K + 1) v ∧ N6 ≤ 302) := ⟨by rw [hs6, hN6]; exact h6.out.1, h6.out.2, by
    have h9 : (miss s 1099511627776 (psS v)).length ≤ 2 := List.length_filter_le _ _
    have := H6.out.2.2
    omega⟩
  have HS6 : Hid (s6 = putAll 1099511627776 kAB 1000 s (miss s 1099511627776 (psS v))) := hs6
  clear h6 hN6 hs6 H6
  go_wp2_with fail
  go_region_held3 (fun X => True) (trivial) ((go_at_call 21; refine (Tw.putT (H7.out.1.go (Keeps.refl no w6).drew).swap (H7.out.2.1.keeps (Keeps.refl no w6).drew id id) (.inl rfl) (.inr rfl) HV.out (by omega)).mono ?_; rintro e w7 ⟨B7, rfl, h7⟩))
  have H8 : Hid (Tw w w7 p s6 N6 q (keepT v) 1 (fun b => b = K ∨ b = K + 1) ∧ Hd w7 K (K + 1) v ∧ N6 ≤ 302) := ⟨h7.out.1.swap, h7.out.2, H7.out.2.2⟩
  clear h7 H7
  have k0 := cell_of_blk H8.out.2.1.k 0
  have k1 := cell_of_blk H8.out.2.1.k 1
  have k2 := cell_of_blk H8.out.2.1.k 2
  have l0 := cell_of_blk H8.out.2.1.l 0
  have l1 := cell_of_blk H8.out.2.1.l 1
  have l2 := cell_of_blk H8.out.2.1.l 2
  have l3 := cell_of_blk H8.out.2.1.l 3
  have l4 := cell_of_blk H8.out.2.1.l 4
  have m0 := frozen_of_blk H8.out.2.1.k 0
  have m1 := frozen_of_blk H8.out.2.1.k 1
  have n0 := frozen_of_blk H8.out.2.1.l 0
  have n1 := frozen_of_blk H8.out.2.1.l 1
  have n2 := frozen_of_blk H8.out.2.1.l 2
  have n3 := frozen_of_blk H8.out.2.1.l 3
  simp only [tA, tB, spare] at k0 k1 k2 l0 l1 l2 l3 l4
  go_wp2_with fail
  obtain ⟨wx, hwx⟩ : ∃ wx, wx = (((((w7.setCell ⟨K, 0, none⟩ (.string ⟨#[63]⟩)).setCell ⟨K, 1, none⟩ (.string ⟨#[63]⟩)).setCell ⟨K + 1, 0, none⟩ (.string ⟨#[63]⟩)).setCell ⟨K + 1, 1, none⟩ (.string ⟨#[]⟩)).setCell ⟨K + 1, 2, none⟩ (.string ⟨#[63]⟩)).setCell ⟨K + 1, 3, none⟩ (.string ⟨#[]⟩) := ⟨_, rfl⟩
  have hkx : Keeps (fun b => b = K ∨ b = K + 1) w7 wx := by
    rw [hwx]
    exact ((((((Keeps.refl _ w7).setCell (.inl (.inl rfl)) _).setCell (.inl (.inl rfl)) _).setCell (.inl (.inr rfl)) _).setCell (.inl (.inr rfl)) _).setCell (.inl (.inr rfl)) _).setCell (.inl (.inr rfl)) _
  have hsx : wx.heap.size = w7.heap.size := by rw [hwx]; simp
  rw [← hwx, ← hsx]
  have HX8 : Hid (Tw w wx p s6 N6 q (keepT v) 1 no ∧ N6 ≤ 302) := ⟨(H8.out.1.other hkx).sub (fun b hb => hb.elim), H8.out.2.2⟩
  clear hwx hkx hsx H8 k0 k1 k2 l0 l1 l2 l3 l4 m0 m1 n0 n1 n2 n3
  have H9 : Hid (Tw w ((wx.alloc (.cells #[.string ⟨#[97]⟩, .string ⟨#[98]⟩] 9)).alloc (.cells #[.string ⟨#[97]⟩, .int .u64 1099511627776, .string v, .slice (some ⟨wx.heap.size, 0, none⟩) 2 2] 46)) p s6 N6 q (keepT v) 1 (fun b => b = wx.heap.size ∨ b = wx.heap.size + 1) ∧ Wn ((wx.alloc (.cells #[.string ⟨#[97]⟩, .string ⟨#[98]⟩] 9)).alloc (.cells #[.string ⟨#[97]⟩, .int .u64 1099511627776, .string v, .slice (some ⟨wx.heap.size, 0, none⟩) 2 2] 46)) (wx.heap.size + 1) wx.heap.size v ∧ N6 ≤ 302) := by
    refine ⟨(HX8.out.1.grow (((Keeps.refl no wx).alloc _).alloc _)).sub (fun b hb => .inr ?_), ⟨?_, ?_⟩, HX8.out.2⟩
    · simp; omega
    · exact (own_of_shape okT (blk_new wx (.cells #[.string ⟨#[97]⟩, .string ⟨#[98]⟩] 9)) (by simp [kAB]) (by unfold maxLen; omega) (by simp [TE]) (by simp [kAB, TE, El.cells, tA, tB])).keepsN ((Keeps.refl no _).alloc _)
    · have := blk_new (wx.alloc (.cells #[.string ⟨#[97]⟩, .string ⟨#[98]⟩] 9)) (.cells #[.string ⟨#[97]⟩, .int .u64 1099511627776, .string v, .slice (some ⟨wx.heap.size, 0, none⟩) 2 2] 46)
      rwa [show (wx.alloc (.cells #[.string ⟨#[97]⟩, .string ⟨#[98]⟩] 9)).heap.size = wx.heap.size + 1 by simp] at this
  clear HX8
  generalize (wx.alloc (.cells #[.string ⟨#[97]⟩, .string ⟨#[98]⟩] 9)).alloc (.cells #[.string ⟨#[97]⟩, .int .u64 1099511627776, .string v, .slice (some ⟨wx.heap.size, 0, none⟩) 2 2] 46) = w9 at H9 ⊢
  generalize wx.heap.size = O at H9 ⊢
  refine (Tw.com H9.out.1 (by have := H9.out.2.2; omega)).mono ?_
  rintro e w10 ⟨nn, rfl, h10⟩
  obtain ⟨s9, hs9⟩ : ∃ s9, s9 = keepS s v := ⟨_, rfl⟩
  have H10 : Hid (Tw w w10 p s9 N6 q (keepT v) 1 no ∧ Wn w10 (O + 1) O v ∧ N6 ≤ 302) := ⟨by
    have h11 := h10.out.1.sub (Q := no) (fun b hb => hb.elim)
    rw [HS6.out] at h11
    rw [hs9]
    exact h11, H9.out.2.1.keeps h10.out.2 (fun hc => hc (.inr rfl)) (fun hc => hc (.inl rfl)), H9.out.2.2⟩
  have HS9 : Hid (s9 = keepS s v) := hs9
  clear h10 hs9 H9
  go_wp2_with fail
  refine (Ow.byA H10.out.1.first HS9.out HS.out.1).mono ?_
  rintro e w11 ⟨o1, c1, rfl, h11⟩
  have H11 : Hid (Tw w w11 p s9 N6 q (keepT v) 1 no ∧ Wn w11 (O + 1) O v ∧ N6 ≤ 302 ∧ Own TE w11 o1 c1 kAB ∧ New w10 o1 ∧ Keeps no w10 w11) := ⟨H10.out.1.go h11.out.1, H10.out.2.1.keepsN h11.out.1, H10.out.2.2, h11.out.2.1, h11.out.2.2, h11.out.1⟩
  clear h11
  go_wp2_with fail
  have H12 : Hid (Tw w (w11.alloc (.cells #[.string ⟨#[97]⟩, .int .u64 1099511627776, .string v, .slice o1 2 c1] 46)) p s9 N6 q (keepT v) 1 (fun b => w10.heap.size ≤ b ∧ b < (w11.alloc (.cells #[.string ⟨#[97]⟩, .int .u64 1099511627776, .string v, .slice o1 2 c1] 46)).heap.size) ∧ Wn (w11.alloc (.cells #[.string ⟨#[97]⟩, .int .u64 1099511627776, .string v, .slice o1 2 c1] 46)) (O + 1) O v ∧ N6 ≤ 302 ∧ TvK w10.heap.size w11.heap.size (w11.alloc (.cells #[.string ⟨#[97]⟩, .int .u64 1099511627776, .string v, .slice o1 2 c1] 46)) w11.heap.size o1 c1 v ∧ O + 1 < w10.heap.size ∧ w10.heap.size ≤ w11.heap.size ∧ w11.heap.size ≤ (w11.alloc (.cells #[.string ⟨#[97]⟩, .int .u64 1099511627776, .string v, .slice o1 2 c1] 46)).heap.size) := by
    have hk := H11.out.2.2.2.2.2.alloc (.cells #[.string ⟨#[97]⟩, .int .u64 1099511627776, .string v, .slice o1 2 c1] 46)
    refine ⟨(H10.out.1.grow hk).sub (fun b hb => .inr hb), H10.out.2.1.keepsN hk, H10.out.2.2, ⟨blk_new w11 _, H11.out.2.2.2.1.keepsN ((Keeps.refl no _).alloc _), fun b hb => ⟨H11.out.2.2.2.2.1 b hb, H11.out.2.2.2.1.lt b hb⟩⟩, lt_of_block H10.out.2.1.b, H11.out.2.2.2.2.2.size, ((Keeps.refl no w11).alloc _).size⟩
  clear H10 H11
  generalize w11.heap.size = V1 at H12 ⊢
  generalize w11.alloc (.cells #[.string ⟨#[97]⟩, .int .u64 1099511627776, .string v, .slice o1 2 c1] 46) = w12 at H12 ⊢
  refine (Ow.latA H12.out.1.first HS9.out HS.out.1 HS.out.2).mono ?_
  rintro e w13 ⟨o2, c2, rfl, h13⟩
  have H13 : Hid (Own TE w13 o2 c2 kAB ∧ New w12 o2 ∧ Keeps no w12 w13) := ⟨h13.out.2.1, h13.out.2.2, h13.out.1⟩
  clear h13
  go_wp2_with fail
  have H14 : Hid (Sa w (w13.alloc (.cells #[.string ⟨#[97]⟩, .int .u64 1099511627776, .string v, .slice o2 2 c2] 46)) p q s9 N6 (keepT v) v O w10.heap.size V1 V1 o1 c1 w12.heap.size w13.heap.size w13.heap.size o2 c2) := by
    have hk := H13.out.2.2.alloc (.cells #[.string ⟨#[97]⟩, .int .u64 1099511627776, .string v, .slice o2 2 c2] 46)
    obtain ⟨g1, g2, g3, g4, g5, g6, g7⟩ := H12.out
    refine ⟨(g1.grow hk).sub (fun b hb => ?_), g2.keepsN hk, g3, g4.keepsN hk, ⟨blk_new w13 _, H13.out.1.keepsN ((Keeps.refl no _).alloc _), fun b hb => ⟨H13.out.2.1 b hb, H13.out.1.lt b hb⟩⟩, g5, g6, g7, H13.out.2.2.size, ((Keeps.refl no w13).alloc _).size⟩
    by_cases hc : b < w12.heap.size
    · exact .inl ⟨hb.1, hc⟩
    · exact .inr ⟨by omega, hb.2⟩
  clear H12 H13
  generalize w10.heap.size = A1 at H14
  generalize w12.heap.size = A2 at H14
  generalize w13.heap.size = V2 at H14 ⊢
  generalize w13.alloc (.cells #[.string ⟨#[97]⟩, .int .u64 1099511627776, .string v, .slice o2 2 c2] 46) = w14 at H14 ⊢
  refine (H14.out.tw.first.keptK (by have := H14.out.le; omega)).mono ?_
  rintro e w15 ⟨ox, nx, cx, kx, rfl, h15⟩
  have H15 : Hid (Sa w w15 p q s9 N6 (keepT v) v O A1 V1 V1 o1 c1 A2 V2 V2 o2 c2 ∧ Kx w14.heap.size w15.heap.size s9 kx ox nx cx w15 ∧ kx.length ≤ 302 ∧ V2 ≤ w14.heap.size) := ⟨H14.out.go h15.out.2.2.1, kx_of h15.out.1 h15.out.2.1, by have := h15.out.2.2.2; have := H14.out.le; omega, H14.out.lt.2.2.2.2⟩
  clear h15 H14
  generalize w14.heap.size = A3 at H15
  go_wp2_with fail
  refine (H15.out.1.tw.first.keptK (by have := H15.out.1.le; omega)).mono ?_
  rintro e w16 ⟨oy, ny, cy, ky, rfl, h16⟩
  have H16 : Hid (Sa w w16 p q s9 N6 (keepT v) v O A1 V1 V1 o1 c1 A2 V2 V2 o2 c2 ∧ Kx A3 w15.heap.size s9 kx ox nx cx w16 ∧ kx.length ≤ 302 ∧ V2 ≤ A3 ∧ Kx w15.heap.size w16.heap.size s9 ky oy ny cy w16 ∧ ky.length ≤ 302) := ⟨H15.out.1.go h16.out.2.2.1, H15.out.2.1.keepsN h16.out.2.2.1, H15.out.2.2.1, H15.out.2.2.2, kx_of h16.out.1 h16.out.2.1, by have := h16.out.2.2.2; have := H15.out.1.le; omega⟩
  clear h16 H15
  generalize w15.heap.size = A4 at H16
  go_wp2_with fail
  refine (H16.out.1.tw.first.lastsK (by have := H16.out.1.le; omega)).mono ?_
  rintro e w17 ⟨op, np, cp, lp, rfl, h17⟩
  have H17 : Hid (Sa w w17 p q s9 N6 (keepT v) v O A1 V1 V1 o1 c1 A2 V2 V2 o2 c2 ∧ Kx A3 A4 s9 kx ox nx cx w17 ∧ kx.length ≤ 302 ∧ V2 ≤ A3 ∧ Kx A4 w16.heap.size s9 ky oy ny cy w17 ∧ ky.length ≤ 302 ∧ Lx w16.heap.size w17.heap.size s9 lp op np cp w17 ∧ lp.length ≤ 302) := ⟨H16.out.1.go h17.out.2.2.1, H16.out.2.1.keepsN h17.out.2.2.1, H16.out.2.2.1, H16.out.2.2.2.1, H16.out.2.2.2.2.1.keepsN h17.out.2.2.1, H16.out.2.2.2.2.2, lx_of h17.out.1 h17.out.2.1 h17.out.2.2.1, by have := h17.out.2.2.2; have := H16.out.1.le; omega⟩
  clear h17 H16
  generalize w16.heap.size = A5 at H17
  go_wp2_with fail
  refine (H17.out.1.tw.first.lastsK (by have := H17.out.1.le; omega)).mono ?_
  rintro e w18 ⟨oq, nq, cq, lq, rfl, h18⟩
  have H18 : Hid (Sa w w18 p q s9 N6 (keepT v) v O A1 V1 V1 o1 c1 A2 V2 V2 o2 c2 ∧ Kx A3 A4 s9 kx ox nx cx w18 ∧ kx.length ≤ 302 ∧ V2 ≤ A3 ∧ Kx A4 A5 s9 ky oy ny cy w18 ∧ ky.length ≤ 302 ∧ Lx A5 w17.heap.size s9 lp op np cp w18 ∧ lp.length ≤ 302 ∧ Lx w17.heap.size w18.heap.size s9 lq oq nq cq w18 ∧ lq.length ≤ 302) := ⟨H17.out.1.go h18.out.2.2.1, H17.out.2.1.keepsN h18.out.2.2.1, H17.out.2.2.1, H17.out.2.2.2.1, H17.out.2.2.2.2.1.keepsN h18.out.2.2.1, H17.out.2.2.2.2.2.1, H17.out.2.2.2.2.2.2.1.keepsN h18.out.2.2.1, H17.out.2.2.2.2.2.2.2, lx_of h18.out.1 h18.out.2.1 h18.out.2.2.1, by have := h18.out.2.2.2; have := H17.out.1.le; omega⟩
  clear h18 H17
  generalize w17.heap.size = A6 at H18
  go_wp2_with fail
  refine (load_same H18.out.2.1.kd H18.out.2.2.2.2.2.2.1.ld).mono ?_
  rintro e w19 ⟨pk, rfl, h19⟩
  have H19 : Hid (∃ M A7, Sb w w19 p pk s9 N6 M v O A1 V1 o1 c1 A2 V2 o2 c2 A3 A4 kx ox nx cx A5 ky oy ny cy A6 lp op np cp A7 lq oq nq cq ∧ Ow w w19 q (keepT v) 1 no) := by
    obtain ⟨g1, g2, g3, g4, g5, g6, g7, g8, g9, g10⟩ := H18.out
    have hk := h19.out.keep
    refine ⟨kx.length, w18.heap.size, ⟨(Tw.made g1.tw.first h19.out).sub (fun b hb => hb), g1.wn.keepsN hk, g1.t1.keepsN hk, g1.t2.keepsN hk, g2.keepsN hk, g5.keepsN hk, g7.keepsN hk, g9.keepsN hk, ⟨g1.le, g3, g3, g6, g8, g10⟩, ⟨g1.lt.1, g1.lt.2.1, g1.lt.2.2.1, g1.lt.2.2.2.1, g4⟩⟩, (g1.tw.swap.first.sub (fun b hb => hb.elim)).go hk⟩
  clear h19 H18
  obtain ⟨M, A7, h19'⟩ := H19.out
  have H20 : Hid (Sb w w19 p pk s9 N6 M v O A1 V1 o1 c1 A2 V2 o2 c2 A3 A4 kx ox nx cx A5 ky oy ny cy A6 lp op np cp A7 lq oq nq cq ∧ Ow w w19 q (keepT v) 1 no) := h19'
  clear H19 h19'
  obtain ⟨d1, d2, d3, d4⟩ := cells4r H20.out.1.t1.b
  obtain ⟨e1, e2, e3, e4⟩ := cells4r H20.out.1.wn.b
  obtain ⟨f1, f2, f3, f4⟩ := cells4r H20.out.1.t2.b
  simp only [tA] at e1
  go_wp2_with fail
  refine (sameA w19 v H20.out.1.t1.k H20.out.1.wn.k).mono ?_
  rintro e w20 ⟨rfl, hk20⟩
  have H21 : Hid (Sb w w20 p pk s9 N6 M v O A1 V1 o1 c1 A2 V2 o2 c2 A3 A4 kx ox nx cx A5 ky oy ny cy A6 lp op np cp A7 lq oq nq cq ∧ Ow w w20 q (keepT v) 1 no) := ⟨H20.out.1.go hk20, H20.out.2.go hk20⟩
  clear d1 d2 d3 d4 e1 e2 e3 e4 f1 f2 f3 f4
  clear hk20 H20
  obtain ⟨d1, d2, d3, d4⟩ := cells4r H21.out.1.t1.b
  obtain ⟨e1, e2, e3, e4⟩ := cells4r H21.out.1.wn.b
  obtain ⟨f1, f2, f3, f4⟩ := cells4r H21.out.1.t2.b
  simp only [tA] at e1
  go_wp2_with fail
  refine (sameA w20 v H21.out.1.t2.k H21.out.1.wn.k).mono ?_
  rintro e w21 ⟨rfl, hk21⟩
  have H22 : Hid (Sb w w21 p pk s9 N6 M v O A1 V1 o1 c1 A2 V2 o2 c2 A3 A4 kx ox nx cx A5 ky oy ny cy A6 lp op np cp A7 lq oq nq cq ∧ Ow w w21 q (keepT v) 1 no) := ⟨H21.out.1.go hk21, H21.out.2.go hk21⟩
  clear d1 d2 d3 d4 e1 e2 e3 e4 f1 f2 f3 f4
  clear hk21 H21
  go_wp2_with fail
  refine (sameKd (fun _ => rfl) H22.out.1.x.kd H22.out.1.y.kd).mono ?_
  rintro e w22 ⟨rfl, hk22⟩
  have H23 : Hid (Sb w w22 p pk s9 N6 M v O A1 V1 o1 c1 A2 V2 o2 c2 A3 A4 kx ox nx cx A5 ky oy ny cy A6 lp op np cp A7 lq oq nq cq ∧ Ow w w22 q (keepT v) 1 no) := ⟨H22.out.1.go hk22, H22.out.2.go hk22⟩
  clear hk22 H22
  go_wp2_with fail
  refine (sameLd (fun _ => rfl) H23.out.1.p.ld H23.out.1.q.ld).mono ?_
  rintro e w23 ⟨rfl, hk23⟩
  have H24 : Hid (Sb w w23 p pk s9 N6 M v O A1 V1 o1 c1 A2 V2 o2 c2 A3 A4 kx ox nx cx A5 ky oy ny cy A6 lp op np cp A7 lq oq nq cq ∧ Ow w w23 q (keepT v) 1 no) := ⟨H23.out.1.go hk23, H23.out.2.go hk23⟩
  clear hk23 H23
  go_wp2_with fail
  refine (H24.out.2.keptK (by omega)).mono ?_
  rintro e w24 ⟨ot, nt, ct, kt, rfl, h24⟩
  have hnt : nt = 1 := keepT_kd h24.out.1
  subst nt
  have H25 : Hid (Sb w w24 p pk s9 N6 M v O A1 V1 o1 c1 A2 V2 o2 c2 A3 A4 kx ox nx cx A5 ky oy ny cy A6 lp op np cp A7 lq oq nq cq ∧ Ow w w24 q (keepT v) 1 no) := ⟨H24.out.1.go h24.out.2.2.1, H24.out.2.go h24.out.2.2.1⟩
  clear h24 H24
  go_wp2_with fail
  refine (H25.out.2.lastsK (by omega)).mono ?_
  rintro e w25 ⟨ou, nu, cu, lu, rfl, h25⟩
  have hnu : nu = 0 := keepT_ld h25.out.1
  subst nu
  have H26 : Hid (Sb w w25 p pk s9 N6 M v O A1 V1 o1 c1 A2 V2 o2 c2 A3 A4 kx ox nx cx A5 ky oy ny cy A6 lp op np cp A7 lq oq nq cq) := H25.out.1.go h25.out.2.2.1
  clear h25 H25
  obtain ⟨d1, d2, d3, d4⟩ := cells4r H26.out.t1.b
  obtain ⟨f1, f2, f3, f4⟩ := cells4r H26.out.t2.b
  go_upto_block 0 with fail
  obtain ⟨G, hG⟩ : ∃ G, G = w25.heap.size := ⟨_, rfl⟩
  have H27 : Hid (Lp (fun X => KS (Dk A1 A4 A5 A6 G) w X p pk s9 N6 M ky oy ny cy lq oq nq cq (O + 1) (some ⟨O, 0, none⟩) 2 v) G o1 c1 o2 c2 kx ox cx lp op cp 0 (some ⟨w25.heap.size, 0, none⟩) 2 (w25.alloc (.cells #[.slice o1 2 c1, .slice o2 2 c2] 44))) := by
    rw [hG]
    exact lp_start H26.out
  have HQ : Hid (∀ a b, KS (Dk A1 A4 A5 A6 G) w a p pk s9 N6 M ky oy ny cy lq oq nq cq (O + 1) (some ⟨O, 0, none⟩) 2 v → G ≤ a.heap.size → Keeps (Dk A1 A4 A5 A6 G) a b → KS (Dk A1 A4 A5 A6 G) w b p pk s9 N6 M ky oy ny cy lq oq nq cq (O + 1) (some ⟨O, 0, none⟩) 2 v) := fun a b h1 h2 h3 => h1.write h3 (fun c hc => .inr (.inr (Nat.le_trans h2 hc)))
  have HN : Hid (nx = kx.length ∧ kx.length ≤ 302 ∧ np = lp.length ∧ lp.length ≤ 302 ∧ (∀ b, inO ox b → Dk A1 A4 A5 A6 G b) ∧ (∀ b, G ≤ b → Dk A1 A4 A5 A6 G b) ∧ (∀ b, inO op b → Dk A1 A4 A5 A6 G b)) := by
    obtain ⟨r1, r2, r3, r4, r5⟩ := H26.out.lt
    refine ⟨H26.out.x.kd.n, H26.out.le.2.2.1, H26.out.p.ld.n, H26.out.le.2.2.2.2.1, fun b hb => .inl ?_, fun b hb => .inr (.inr hb), fun b hb => .inr (.inl (H26.out.p.ge b hb))⟩
    have := H26.out.x.ge b hb
    omega
  have hnxI : (nx : Int) ≤ 302 := by have := HN.out.1; have := HN.out.2.1; omega
  generalize w25.alloc (.cells #[.slice o1 2 c1, .slice o2 2 c2] 44) = w26 at H27 ⊢
  generalize w25.heap.size = G0 at H27 ⊢
  clear d1 d2 d3 d4 f1 f2 f3 f4 hG
  go_cut [23, 24] from 183 to 201 (fun s23 _ wc => ∃ (ol : Option Addr) (m cl : Nat), s23 = .slice ol m cl ∧ Hid (m = nx + 2 ∧ Lp (fun X => KS (Dk A1 A4 A5 A6 G) w X p pk s9 N6 M ky oy ny cy lq oq nq cq (O + 1) (some ⟨O, 0, none⟩) 2 v) G o1 c1 o2 c2 kx ox cx lp op cp nx ol cl wc))
  case first =>
    go_wp2_with fail
    go_loopw [23, 24] (fun s23 s24 wq => ∃ (t : Nat) (ol : Option Addr) (m cl : Nat), t ≤ nx ∧ s24 = .int .i64 t ∧ s23 = .slice ol m cl ∧ Hid (m = t + 2 ∧ Lp (fun X => KS (Dk A1 A4 A5 A6 G) w X p pk s9 N6 M ky oy ny cy lq oq nq cq (O + 1) (some ⟨O, 0, none⟩) 2 v) G o1 c1 o2 c2 kx ox cx lp op cp t ol cl wq)) (fun _ t _ => nx - (intOf t).toNat)
    case atStart => exact ⟨0, _, 2, 2, by omega, rfl, rfl, rfl, H27.out⟩
    case round =>
      obtain ⟨t, ol, m, cl, ht, rfl, rfl, HT⟩ := hrel
      rename World => wq
      clear H27
      by_cases htl : t < nx
      · have htl' : (t : Int) < nx := by omega
        have hta : t < kx.length := by have := HN.out.1; omega
        have hmI : (m : Int) ≤ 400 := by have := HT.out.1; omega
        obtain ⟨gx, egx, _⟩ := HT.out.2.stamp HQ.out HN.out.2.2.2.2.1 t hta
        subst egx
        obtain ⟨kx', hx1, hx2⟩ := HT.out.2.x
        have hta' : t < kx'.length := by rw [← hx2.1]; exact hta
        obtain ⟨b1, off1, e1, d0, d1, d2, d3, d4⟩ := hx1.sl.atK hta'
        cases e1
        have hAs := hx2.2 t hta
        rw [← hAs.o, ← hAs.c, ← hAs.keys, Nat.zero_add] at d3
        have HU : Hid (t < kx.length ∧ m = (YL o1 c1 o2 c2 kx t).length) := ⟨hta, by rw [YL_len _ _ _ _ _ _ (by omega)]; exact HT.out.1⟩
        have HLU : Hid (lsK (kx.getD t kv0) = ⟨(kx.getD t kv0).o, (kx.getD t kv0).c, (kx.getD t kv0).keys⟩) := rfl
        obtain ⟨u, hu⟩ : ∃ u, u = kx.getD t kv0 := ⟨_, rfl⟩
        rw [← hu] at d3 HLU
        have HUU : Hid (u = kx.getD t kv0) := hu
        obtain ⟨nk, hnk⟩ : ∃ nk, nk = u.keys.length := ⟨_, rfl⟩
        rw [← hnk] at d3
        have HNK : Hid (nk = u.keys.length) := hnk
        clear hu hnk hAs hx1 hx2 hta' d0 d1 d2 d4 hta
        go_wp2_with (at_builtin; refine wpList_app okX rfl _ _ rfl _ _ _ (YL o1 c1 o2 c2 kx t) rfl HU.out.2 (HT.out.2.l.keepsN ((Keeps.refl _ _).alloc _)) _ _ _ [lsK u] rfl rfl (fun h => by cases h) (lit_one (E := XE) _ (lsK u) _ (by simp [XE, LS.enc, lsK, HNK.out])).row (by have := HU.out.2; simp [XE]; omega) (by have := HU.out.2; simp; omega) ?_; intro o6 c6 w6 ho6 hap6; have HL6 : Hid (Lp (fun X => KS (Dk A1 A4 A5 A6 G) w X p pk s9 N6 M ky oy ny cy lq oq nq cq (O + 1) (some ⟨O, 0, none⟩) 2 v) G o1 c1 o2 c2 kx (some ⟨gx, 0, none⟩) cx lp op cp (t + 1) o6 c6 w6) := (HT.out.2.go HQ.out ((Keeps.refl no wq).alloc _)).push HQ.out HN.out.2.2.2.2.2.1 HU.out.1 (by rw [← HUU.out]; exact ho6) hap6; obtain ⟨g6, eg6, hf6, ⟨z6, hc6⟩, hl6⟩ := HL6.out.stamp HQ.out HN.out.2.2.2.2.1 t HU.out.1; cases eg6; have HL7 : Hid _ := hl6; clear hl6 ho6 hap6)
        go_roundw
        case rel => exact ⟨t + 1, o6, m + 1, c6, by omega, by go_num, rfl, by have := HT.out.1; omega, HL7.out⟩
        case measure => simp [intOf]; omega
      · have htl' : ¬ (t : Int) < nx := by omega
        obtain rfl : t = nx := by omega
        go_wp2_with fail
        go_meet
        exact ⟨ol, m, cl, rfl, HT.out⟩
  case rest =>
  rename World => w27
  obtain ⟨ol, m, cl, rfl, HT⟩ := hcut
  clear H27
  have HYL : Hid (m = (YL o1 c1 o2 c2 kx nx).length ∧ m ≤ 1000) := ⟨by rw [YL_len _ _ _ _ _ _ (by have := HN.out.1; omega)]; exact HT.out.1, by have := HT.out.1; omega⟩
  go_wp2_with fail
  refine (lp_marked H26.out HT.out.2 m HYL.out.1 HYL.out.2).mono ?_
  rintro e w28 ⟨rfl, hk28⟩
  have H28 : Hid (Lr (fun X => KS (Dk A1 A4 A5 A6 G) w X p pk s9 N6 M ky oy ny cy lq oq nq cq (O + 1) (some ⟨O, 0, none⟩) 2 v) G nx ox cx np op cp w28) := by
    have h := Lp.mark HQ.out HT.out.2 (bm_dk H26.out nx G _ HT.out.2.sz) hk28
    rw [← HN.out.1, ← HN.out.2.2.1] at h
    exact h
  have HLN : Hid (ny = nx ∧ nq = np) := H26.out.lens
  have HLE : Hid (N6 ≤ 302 ∧ M ≤ 302) := ⟨H26.out.le.1, H26.out.le.2.1⟩
  have HKP : Hid (Keeps no w w28) := H28.out.q.first.1.keep
  clear hk28 HT HYL H26
  have hpI : (np : Int) ≤ 302 := by have := HN.out.2.2.1; have := HN.out.2.2.2.1; omega
  go_wp2_with fail
  go_loopw [25] (fun s25 wq => ∃ t : Nat, t ≤ np ∧ s25 = .int .i64 t ∧ Hid (Lr (fun X => KS (Dk A1 A4 A5 A6 G) w X p pk s9 N6 M ky oy ny cy lq oq nq cq (O + 1) (some ⟨O, 0, none⟩) 2 v) G nx ox cx np op cp wq)) (fun t _ => np - (intOf t).toNat)
  case atStart => exact ⟨0, by omega, rfl, H28.out⟩
  case round =>
    obtain ⟨t, ht, rfl, HT⟩ := hrel
    rename World => wq
    clear H28
    by_cases htl : t < np
    · have htl' : (t : Int) < np := by omega
      obtain ⟨g, eg, hf, ⟨z, hc⟩, hl⟩ := HT.out.key HQ.out HN.out.2.2.2.2.2.2 t htl
      subst eg
      have HL : Hid _ := hl
      clear hl
      go_wp2_with fail
      go_roundw
      case rel => exact ⟨t + 1, by omega, by go_num, HL.out⟩
      case measure => simp [intOf]; omega
    · have htl' : ¬ (t : Int) < np := by omega
      obtain ⟨kx', hx1, hx2⟩ := HT.out.x
      have HX : Hid (Own KE wq ox cx kx' ∧ kx'.length = nx) := ⟨hx1, hx2⟩
      clear hx1 hx2
      have HXB : Hid ((kx'.length + 1) * 72 ≤ 140737488355328) := (show _ ≤ _ by have := HX.out.2; omega)
      obtain ⟨lp', hp1, hp2⟩ := HT.out.p
      have HP : Hid (lp'.length = np) := hp2
      have HPB : Hid ((lp'.length + 1) * 24 ≤ 140737488355328) := (show _ ≤ _ by have := HP.out; omega)
      have HPO : Hid (Own LE wq op cp lp') := hp1
      clear hp1 hp2
      have HPQ : Hid (∀ b, inO op b → Dk A1 A4 A5 A6 G b) := HN.out.2.2.2.2.2.2
      have HXQ : Hid (∀ b, inO ox b → Dk A1 A4 A5 A6 G b) := HN.out.2.2.2.2.1
      have HXI : Hid (nx = kx'.length ∧ np = lp'.length) := ⟨HX.out.2.symm, HP.out.symm⟩
      go_wp2_with (first | (at_builtin; refine wpList_app okK rfl _ _ rfl _ _ _ kx' rfl HXI.out.1 (HX.out.1.keepsN ((Keeps.refl _ _).alloc _)) _ _ _ [⟨(⟨#[]⟩, 0), ⟨#[]⟩, none, 0, [], -8⟩] rfl rfl (fun h => by cases h) (own_oneK wq ⟨(⟨#[]⟩, 0), ⟨#[]⟩, none, 0, [], -8⟩).row HXB.out (by have := HXB.out; simp; omega) ?_; intro o6 c6 w6 ho6 hap6; have H6 := Lr.appXP HQ.out HXQ.out HT.out HX.out.1 HX.out.2 HPO.out ho6 hap6; have HA6 : Hid _ := H6.1; have HP6 : Hid (Own LE w6 op cp lp') := H6.2; clear H6 ho6 hap6) | (at_builtin; refine wpList_app okL rfl _ _ rfl _ _ _ lp' rfl HXI.out.2 (HP6.out.keepsN ((Keeps.refl _ _).alloc _)) _ _ _ [(⟨#[33]⟩, 0)] rfl rfl (fun h => by cases h) (own_oneL w6 (⟨#[33]⟩, 0)).row HPB.out (by have := HPB.out; simp; omega) ?_; intro o7 c7 w7' ho7 hap7; have HA7 : Hid _ := Lr.appPP HQ.out HPQ.out HA6.out HP6.out hap7; clear ho7 hap7))
      -- the last region
      have HZ : Hid (Kz w w7' p pk s9 N6 M ky oy ny cy lq oq nq cq (O + 1) (some ⟨O, 0, none⟩) 2 v) := HA7.out.kz
      have HLQ : Hid (N6 ≤ 1000000 ∧ M ≤ 1000000) := ⟨by have := HLE.out; omega, by have := HLE.out; omega⟩
      have HSX : Hid (∀ X, Keeps no w7' X → X.cell? ⟨O + 1, 0, none⟩ = some (.string ⟨#[97]⟩) ∧ X.cell? ⟨O + 1, 1, none⟩ = some (.int .u64 1099511627776) ∧ X.cell? ⟨O + 1, 2, none⟩ = some (.string v) ∧ X.cell? ⟨O + 1, 3, none⟩ = some (.slice (some ⟨O, 0, none⟩) 2 2)) := fun X hX => cells4r (hX.at HZ.out.wb id)
      have HSS : Hid (SmallI s ∧ Ok s ∧ s9 = keepS s v) := ⟨HS.out.1, HS.out.2, HS9.out⟩
      obtain ⟨hny, hnq⟩ := HLN.out
      have hwx : IntKind.i64.wrap ((nx : Int) + 1) = (nx : Int) + 1 := by rw [IntKind.wrap_i64]; omega
      have hwp : IntKind.i64.wrap ((np : Int) + 1) = (np : Int) + 1 := by rw [IntKind.wrap_i64]; omega
      clear HX HXB HP HPB HPO HPQ HXQ HXI HP6 HA6 HA7 HT HQ HN HLN HLE
      subst ny nq
      refine wp_region_held_drew (S := (fun X => X.cell? ⟨O + 1, 0, none⟩ = some (.string ⟨#[97]⟩) ∧ X.cell? ⟨O + 1, 1, none⟩ = some (.int .u64 1099511627776) ∧ X.cell? ⟨O + 1, 2, none⟩ = some (.string v) ∧ X.cell? ⟨O + 1, 3, none⟩ = some (.slice (some ⟨O, 0, none⟩) 2 2))) (by kernel_rfl) ?_ (fun hHeld => ?_)
      · first | exact HSX.out _ (Keeps.refl no w7') | exact HSX.out _ ((Keeps.refl no w7').drew)
      refine wpAnyH_take (i := 0) (v := ?_) (by simp only [List.getElem?_toArray, List.getElem?_cons_succ, List.getElem?_cons_zero]; rfl) (by kernel_rfl) (by kernel_rfl) (by kernel_rfl) (by exact fun _ _ _ h => h) (Or.inl ⟨by rfl, ?_⟩) (by assumption) ?_
      rotate_left
      · (intro _ hSw; (try dsimp only at hSw); go_simp; (try with_reducible rfl))
      try simp only [Act.put, List.setIfInBounds_toArray, List.set_cons_zero, List.set_cons_succ]
      refine wpAnyH_take (i := 2) (v := ?_) (by simp only [List.getElem?_toArray, List.getElem?_cons_succ, List.getElem?_cons_zero]; rfl) (by kernel_rfl) (by kernel_rfl) (by kernel_rfl) (by exact fun _ _ _ h => h) (Or.inl ⟨by rfl, ?_⟩) (by assumption) ?_
      rotate_left
      · (intro _ hSw; (try dsimp only at hSw); go_simp; (try with_reducible rfl))
      try simp only [Act.put, List.setIfInBounds_toArray, List.set_cons_zero, List.set_cons_succ]
      refine wpAnyH_ready (rs := [1]) (by kernel_rfl) (by simp) ?_
      refine AllReadyH.cons (by simp only [List.getElem?_toArray, List.getElem?_cons_succ, List.getElem?_cons_zero]; rfl) (fun Kq hKq => ?_) AllReadyH.nil
      (go_simp; refine ((HZ.out.go ((Keeps.refl no w7').drew)).a.keptK HLQ.out.1).mono ?_; rintro e z1 ⟨o1, n1, c1, l1, rfl, h1⟩; have Z1 : Hid (Kz w z1 p pk s9 N6 M ky oy nx cy lq oq np cq (O + 1) (some ⟨O, 0, none⟩) 2 v ∧ Keeps no w7' z1) := ⟨(HZ.out.go ((Keeps.refl no w7').drew)).go h1.out.2.2.1, ((Keeps.refl no w7').drew).trans h1.out.2.2.1⟩; have D1 : Hid (Kd s9 l1 o1 n1 c1 z1) := h1.out.1; clear h1)
      refine hKq.out _ _ ?_ (fun hHeldN => ?_)
      · exact HSX.out _ Z1.out.2
      clear hKq Kq hHeld
      have hHeld := hHeldN
      clear hHeldN
      refine wpAnyH_ready (rs := [3]) (by kernel_rfl) (by simp) ?_
      refine AllReadyH.cons (by simp only [List.getElem?_toArray, List.getElem?_cons_succ, List.getElem?_cons_zero]; rfl) (fun Kq hKq => ?_) AllReadyH.nil
      (go_simp; refine (sameKd (fun _ => rfl) D1.out Z1.out.1.y).mono ?_; rintro e z2 ⟨rfl, h2⟩; have Z2 : Hid (Kz w z2 p pk s9 N6 M ky oy nx cy lq oq np cq (O + 1) (some ⟨O, 0, none⟩) 2 v ∧ Keeps no w7' z2) := ⟨Z1.out.1.go h2, Z1.out.2.trans h2⟩; clear h2)
      refine hKq.out _ _ ?_ (fun hHeldN => ?_)
      · exact HSX.out _ Z2.out.2
      clear hKq Kq hHeld
      have hHeld := hHeldN
      clear hHeldN
      refine wpAnyH_take (i := 4) (v := ?_) (by simp only [List.getElem?_toArray, List.getElem?_cons_succ, List.getElem?_cons_zero]; rfl) (by kernel_rfl) (by kernel_rfl) (by kernel_rfl) (by exact fun _ _ _ h => h) (Or.inl ⟨by rfl, ?_⟩) (by assumption) ?_
      rotate_left
      · (intro _ hSw; (try dsimp only at hSw); go_simp; (try with_reducible rfl))
      try simp only [Act.put, List.setIfInBounds_toArray, List.set_cons_zero, List.set_cons_succ]
      refine wpAnyH_take (i := 5) (v := ?_) (by simp only [List.getElem?_toArray, List.getElem?_cons_succ, List.getElem?_cons_zero]; rfl) (by kernel_rfl) (by kernel_rfl) (by kernel_rfl) (by exact fun _ _ _ h => h) (Or.inl ⟨by rfl, ?_⟩) (by assumption) ?_
      rotate_left
      · (intro _ hSw; (try dsimp only at hSw); go_simp; (try with_reducible rfl))
      try simp only [Act.put, List.setIfInBounds_toArray, List.set_cons_zero, List.set_cons_succ]
      refine wpAnyH_take (i := 7) (v := ?_) (by simp only [List.getElem?_toArray, List.getElem?_cons_succ, List.getElem?_cons_zero]; rfl) (by kernel_rfl) (by kernel_rfl) (by kernel_rfl) (by exact fun _ _ _ h => h) (Or.inl ⟨by rfl, ?_⟩) (by assumption) ?_
      rotate_left
      · (intro _ hSw; (try dsimp only at hSw); go_simp; (try with_reducible rfl))
      try simp only [Act.put, List.setIfInBounds_toArray, List.set_cons_zero, List.set_cons_succ]
      refine wpAnyH_ready (rs := [6]) (by kernel_rfl) (by simp) ?_
      refine AllReadyH.cons (by simp only [List.getElem?_toArray, List.getElem?_cons_succ, List.getElem?_cons_zero]; rfl) (fun Kq hKq => ?_) AllReadyH.nil
      (go_simp; refine (Z2.out.1.a.lastsK HLQ.out.1).mono ?_; rintro e z3 ⟨o3, n3, c3, l3, rfl, h3⟩; have Z3 : Hid (Kz w z3 p pk s9 N6 M ky oy nx cy lq oq np cq (O + 1) (some ⟨O, 0, none⟩) 2 v ∧ Keeps no w7' z3) := ⟨Z2.out.1.go h3.out.2.2.1, Z2.out.2.trans h3.out.2.2.1⟩; have D3 : Hid (Ld s9 l3 o3 n3 c3 z3) := h3.out.1; clear h3)
      refine hKq.out _ _ ?_ (fun hHeldN => ?_)
      · exact HSX.out _ Z3.out.2
      clear hKq Kq hHeld
      have hHeld := hHeldN
      clear hHeldN
      refine wpAnyH_ready (rs := [8]) (by kernel_rfl) (by simp) ?_
      refine AllReadyH.cons (by simp only [List.getElem?_toArray, List.getElem?_cons_succ, List.getElem?_cons_zero]; rfl) (fun Kq hKq => ?_) AllReadyH.nil
      (go_simp; refine (sameLd (fun _ => rfl) D3.out Z3.out.1.q).mono ?_; rintro e z4 ⟨rfl, h4⟩; have Z4 : Hid (Kz w z4 p pk s9 N6 M ky oy nx cy lq oq np cq (O + 1) (some ⟨O, 0, none⟩) 2 v ∧ Keeps no w7' z4) := ⟨Z3.out.1.go h4, Z3.out.2.trans h4⟩; clear h4)
      refine hKq.out _ _ ?_ (fun hHeldN => ?_)
      · exact HSX.out _ Z4.out.2
      clear hKq Kq hHeld
      have hHeld := hHeldN
      clear hHeldN
      refine wpAnyH_take (i := 9) (v := ?_) (by simp only [List.getElem?_toArray, List.getElem?_cons_succ, List.getElem?_cons_zero]; rfl) (by kernel_rfl) (by kernel_rfl) (by kernel_rfl) (by exact fun _ _ _ h => h) (Or.inl ⟨by rfl, ?_⟩) (by assumption) ?_
      rotate_left
      · (intro _ hSw; (try dsimp only at hSw); go_simp; (try with_reducible rfl))
      try simp only [Act.put, List.setIfInBounds_toArray, List.set_cons_zero, List.set_cons_succ]
      refine wpAnyH_take (i := 10) (v := ?_) (by simp only [List.getElem?_toArray, List.getElem?_cons_succ, List.getElem?_cons_zero]; rfl) (by kernel_rfl) (by kernel_rfl) (by kernel_rfl) (by exact fun _ _ _ h => h) (Or.inl ⟨by rfl, ?_⟩) (by assumption) ?_
      rotate_left
      · (intro _ hSw; (try dsimp only at hSw); go_simp; (try with_reducible rfl))
      try simp only [Act.put, List.setIfInBounds_toArray, List.set_cons_zero, List.set_cons_succ]
      refine wpAnyH_take (i := 11) (v := ?_) (by simp only [List.getElem?_toArray, List.getElem?_cons_succ, List.getElem?_cons_zero]; rfl) (by kernel_rfl) (by kernel_rfl) (by kernel_rfl) (by exact fun _ _ _ h => h) (Or.inl ⟨by rfl, ?_⟩) (by assumption) ?_
      rotate_left
      · (intro _ hSw; (try dsimp only at hSw); go_simp; (try with_reducible rfl))
      try simp only [Act.put, List.setIfInBounds_toArray, List.set_cons_zero, List.set_cons_succ]
      refine wpAnyH_take (i := 13) (v := ?_) (by simp only [List.getElem?_toArray, List.getElem?_cons_succ, List.getElem?_cons_zero]; rfl) (by kernel_rfl) (by kernel_rfl) (by kernel_rfl) (by exact fun _ _ _ h => h) (Or.inl ⟨by rfl, ?_⟩) (by assumption) ?_
      rotate_left
      · (intro _ hSw; (try dsimp only at hSw); go_simp; (try with_reducible rfl))
      try simp only [Act.put, List.setIfInBounds_toArray, List.set_cons_zero, List.set_cons_succ]
      refine wpAnyH_ready (rs := [12]) (by kernel_rfl) (by simp) ?_
      refine AllReadyH.cons (by simp only [List.getElem?_toArray, List.getElem?_cons_succ, List.getElem?_cons_zero]; rfl) (fun Kq hKq => ?_) AllReadyH.nil
      (go_simp; refine (Z4.out.1.b.keptK HLQ.out.2).mono ?_; rintro e z5 ⟨o5, n5, c5, l5, rfl, h5⟩; have Z5 : Hid (Kz w z5 p pk s9 N6 M ky oy nx cy lq oq np cq (O + 1) (some ⟨O, 0, none⟩) 2 v ∧ Keeps no w7' z5) := ⟨Z4.out.1.go h5.out.2.2.1, Z4.out.2.trans h5.out.2.2.1⟩; have D5 : Hid (Kd s9 l5 o5 n5 c5 z5) := h5.out.1; clear h5)
      refine hKq.out _ _ ?_ (fun hHeldN => ?_)
      · exact HSX.out _ Z5.out.2
      clear hKq Kq hHeld
      have hHeld := hHeldN
      clear hHeldN
      refine wpAnyH_ready (rs := [14]) (by kernel_rfl) (by simp) ?_
      refine AllReadyH.cons (by simp only [List.getElem?_toArray, List.getElem?_cons_succ, List.getElem?_cons_zero]; rfl) (fun Kq hKq => ?_) AllReadyH.nil
      (go_simp; refine (sameKd (fun _ => rfl) D5.out Z5.out.1.y).mono ?_; rintro e z6 ⟨rfl, h6⟩; have Z6 : Hid (Kz w z6 p pk s9 N6 M ky oy nx cy lq oq np cq (O + 1) (some ⟨O, 0, none⟩) 2 v ∧ Keeps no w7' z6) := ⟨Z5.out.1.go h6, Z5.out.2.trans h6⟩; clear h6)
      refine hKq.out _ _ ?_ (fun hHeldN => ?_)
      · exact HSX.out _ Z6.out.2
      clear hKq Kq hHeld
      have hHeld := hHeldN
      clear hHeldN
      refine wpAnyH_take (i := 15) (v := ?_) (by simp only [List.getElem?_toArray, List.getElem?_cons_succ, List.getElem?_cons_zero]; rfl) (by kernel_rfl) (by kernel_rfl) (by kernel_rfl) (by exact fun _ _ _ h => h) (Or.inl ⟨by rfl, ?_⟩) (by assumption) ?_
      rotate_left
      · (intro _ hSw; (try dsimp only at hSw); go_simp; (try with_reducible rfl))
      try simp only [Act.put, List.setIfInBounds_toArray, List.set_cons_zero, List.set_cons_succ]
      refine wpAnyH_take (i := 16) (v := ?_) (by simp only [List.getElem?_toArray, List.getElem?_cons_succ, List.getElem?_cons_zero]; rfl) (by kernel_rfl) (by kernel_rfl) (by kernel_rfl) (by exact fun _ _ _ h => h) (Or.inl ⟨by rfl, ?_⟩) (by assumption) ?_
      rotate_left
      · (intro _ hSw; (try dsimp only at hSw); go_simp; (try with_reducible rfl))
      try simp only [Act.put, List.setIfInBounds_toArray, List.set_cons_zero, List.set_cons_succ]
      refine wpAnyH_take (i := 17) (v := ?_) (by simp only [List.getElem?_toArray, List.getElem?_cons_succ, List.getElem?_cons_zero]; rfl) (by kernel_rfl) (by kernel_rfl) (by kernel_rfl) (by exact fun _ _ _ h => h) (Or.inl ⟨by rfl, ?_⟩) (by assumption) ?_
      rotate_left
      · (intro _ hSw; (try dsimp only at hSw); go_simp; (try with_reducible rfl))
      try simp only [Act.put, List.setIfInBounds_toArray, List.set_cons_zero, List.set_cons_succ]
      refine wpAnyH_take (i := 19) (v := ?_) (by simp only [List.getElem?_toArray, List.getElem?_cons_succ, List.getElem?_cons_zero]; rfl) (by kernel_rfl) (by kernel_rfl) (by kernel_rfl) (by exact fun _ _ _ h => h) (Or.inl ⟨by rfl, ?_⟩) (by assumption) ?_
      rotate_left
      · (intro _ hSw; (try dsimp only at hSw); go_simp; (try with_reducible rfl))
      try simp only [Act.put, List.setIfInBounds_toArray, List.set_cons_zero, List.set_cons_succ]
      refine wpAnyH_ready (rs := [18]) (by kernel_rfl) (by simp) ?_
      refine AllReadyH.cons (by simp only [List.getElem?_toArray, List.getElem?_cons_succ, List.getElem?_cons_zero]; rfl) (fun Kq hKq => ?_) AllReadyH.nil
      (go_simp; refine (Z6.out.1.b.lastsK HLQ.out.2).mono ?_; rintro e z7 ⟨o7, n7, c7, l7, rfl, h7⟩; have Z7 : Hid (Kz w z7 p pk s9 N6 M ky oy nx cy lq oq np cq (O + 1) (some ⟨O, 0, none⟩) 2 v ∧ Keeps no w7' z7) := ⟨Z6.out.1.go h7.out.2.2.1, Z6.out.2.trans h7.out.2.2.1⟩; have D7 : Hid (Ld s9 l7 o7 n7 c7 z7) := h7.out.1; clear h7)
      refine hKq.out _ _ ?_ (fun hHeldN => ?_)
      · exact HSX.out _ Z7.out.2
      clear hKq Kq hHeld
      have hHeld := hHeldN
      clear hHeldN
      refine wpAnyH_ready (rs := [20]) (by kernel_rfl) (by simp) ?_
      refine AllReadyH.cons (by simp only [List.getElem?_toArray, List.getElem?_cons_succ, List.getElem?_cons_zero]; rfl) (fun Kq hKq => ?_) AllReadyH.nil
      (go_simp; refine (sameLd (fun _ => rfl) D7.out Z7.out.1.q).mono ?_; rintro e z8 ⟨rfl, h8⟩; have Z8 : Hid (Kz w z8 p pk s9 N6 M ky oy nx cy lq oq np cq (O + 1) (some ⟨O, 0, none⟩) 2 v ∧ Keeps no w7' z8) := ⟨Z7.out.1.go h8, Z7.out.2.trans h8⟩; clear h8)
      refine hKq.out _ _ ?_ (fun hHeldN => ?_)
      · exact HSX.out _ Z8.out.2
      clear hKq Kq hHeld
      have hHeld := hHeldN
      clear hHeldN
      refine wpAnyH_take (i := 21) (v := ?_) (by simp only [List.getElem?_toArray, List.getElem?_cons_succ, List.getElem?_cons_zero]; rfl) (by kernel_rfl) (by kernel_rfl) (by kernel_rfl) (by exact fun _ _ _ h => h) (Or.inl ⟨by rfl, ?_⟩) (by assumption) ?_
      rotate_left
      · (intro _ hSw; (try dsimp only at hSw); go_simp; (try with_reducible rfl))
      try simp only [Act.put, List.setIfInBounds_toArray, List.set_cons_zero, List.set_cons_succ]
      refine wpAnyH_take (i := 22) (v := ?_) (by simp only [List.getElem?_toArray, List.getElem?_cons_succ, List.getElem?_cons_zero]; rfl) (by kernel_rfl) (by kernel_rfl) (by kernel_rfl) (by exact fun _ _ _ h => h) (Or.inl ⟨by rfl, ?_⟩) (by assumption) ?_
      rotate_left
      · (intro _ hSw; (try dsimp only at hSw); go_simp; (try with_reducible rfl))
      try simp only [Act.put, List.setIfInBounds_toArray, List.set_cons_zero, List.set_cons_succ]
      refine wpAnyH_take (i := 23) (v := ?_) (by simp only [List.getElem?_toArray, List.getElem?_cons_succ, List.getElem?_cons_zero]; rfl) (by kernel_rfl) (by kernel_rfl) (by kernel_rfl) (by exact fun _ _ _ h => h) (Or.inl ⟨by rfl, ?_⟩) (by assumption) ?_
      rotate_left
      · (intro _ hSw; (try dsimp only at hSw); go_simp; (try with_reducible rfl))
      try simp only [Act.put, List.setIfInBounds_toArray, List.set_cons_zero, List.set_cons_succ]
      refine wpAnyH_take (i := 25) (v := ?_) (by simp only [List.getElem?_toArray, List.getElem?_cons_succ, List.getElem?_cons_zero]; rfl) (by kernel_rfl) (by kernel_rfl) (by kernel_rfl) (by exact fun _ _ _ h => h) (Or.inl ⟨by rfl, ?_⟩) (by assumption) ?_
      rotate_left
      · (intro _ hSw; (try dsimp only at hSw); go_simp; (try with_reducible rfl))
      try simp only [Act.put, List.setIfInBounds_toArray, List.set_cons_zero, List.set_cons_succ]
      refine wpAnyH_ready (rs := [24]) (by kernel_rfl) (by simp) ?_
      refine AllReadyH.cons (by simp only [List.getElem?_toArray, List.getElem?_cons_succ, List.getElem?_cons_zero]; rfl) (fun Kq hKq => ?_) AllReadyH.nil
      (go_simp; refine (Z8.out.1.a.latA HSS.out.2.2 HSS.out.1 HSS.out.2.1).mono ?_; rintro e z9 ⟨o9, c9, rfl, h9⟩; have Z9 : Hid (Kz w z9 p pk s9 N6 M ky oy nx cy lq oq np cq (O + 1) (some ⟨O, 0, none⟩) 2 v ∧ Keeps no w7' z9) := ⟨Z8.out.1.go h9.out.1, Z8.out.2.trans h9.out.1⟩; have D9 : Hid (Own TE z9 o9 c9 kAB) := h9.out.2.1; clear h9)
      refine hKq.out _ _ ?_ (fun hHeldN => ?_)
      · exact HSX.out _ Z9.out.2
      clear hKq Kq hHeld
      have hHeld := hHeldN
      clear hHeldN
      refine wpAnyH_ready (rs := [26]) (by kernel_rfl) (by simp) ?_
      refine AllReadyH.cons (by simp only [List.getElem?_toArray, List.getElem?_cons_succ, List.getElem?_cons_zero]; rfl) (fun Kq hKq => ?_) AllReadyH.nil
      (go_simp; refine (sameA z9 v D9.out Z9.out.1.wk).mono ?_; rintro e zA ⟨rfl, hA⟩; have ZA : Hid (Kz w zA p pk s9 N6 M ky oy nx cy lq oq np cq (O + 1) (some ⟨O, 0, none⟩) 2 v ∧ Keeps no w7' zA) := ⟨Z9.out.1.go hA, Z9.out.2.trans hA⟩; clear hA)
      refine hKq.out _ _ ?_ (fun hHeldN => ?_)
      · exact HSX.out _ ZA.out.2
      clear hKq Kq hHeld
      have hHeld := hHeldN
      clear hHeldN
      refine wpAnyH_take (i := 27) (v := ?_) (by simp only [List.getElem?_toArray, List.getElem?_cons_succ, List.getElem?_cons_zero]; rfl) (by kernel_rfl) (by kernel_rfl) (by kernel_rfl) (by exact fun _ _ _ h => h) (Or.inl ⟨by rfl, ?_⟩) (by assumption) ?_
      rotate_left
      · (intro _ hSw; (try dsimp only at hSw); go_simp; (try with_reducible rfl))
      try simp only [Act.put, List.setIfInBounds_toArray, List.set_cons_zero, List.set_cons_succ]
      refine wpAnyH_take (i := 28) (v := ?_) (by simp only [List.getElem?_toArray, List.getElem?_cons_succ, List.getElem?_cons_zero]; rfl) (by kernel_rfl) (by kernel_rfl) (by kernel_rfl) (by exact fun _ _ _ h => h) (Or.inl ⟨by rfl, ?_⟩) (by assumption) ?_
      rotate_left
      · (intro _ hSw; (try dsimp only at hSw); go_simp; (try with_reducible rfl))
      try simp only [Act.put, List.setIfInBounds_toArray, List.set_cons_zero, List.set_cons_succ]
      refine wpAnyH_take (i := 29) (v := ?_) (by simp only [List.getElem?_toArray, List.getElem?_cons_succ, List.getElem?_cons_zero]; rfl) (by kernel_rfl) (by kernel_rfl) (by kernel_rfl) (by exact fun _ _ _ h => h) (Or.inl ⟨by rfl, ?_⟩) (by assumption) ?_
      rotate_left
      · (intro _ hSw; (try dsimp only at hSw); go_simp; (try with_reducible rfl))
      try simp only [Act.put, List.setIfInBounds_toArray, List.set_cons_zero, List.set_cons_succ]
      refine wpAnyH_take (i := 30) (v := ?_) (by simp only [List.getElem?_toArray, List.getElem?_cons_succ, List.getElem?_cons_zero]; rfl) (by kernel_rfl) (by kernel_rfl) (by kernel_rfl) (by exact fun _ _ _ h => h) (Or.inl ⟨by rfl, ?_⟩) (by assumption) ?_
      rotate_left
      · (intro _ hSw; (try dsimp only at hSw); go_simp; (try with_reducible rfl))
      try simp only [Act.put, List.setIfInBounds_toArray, List.set_cons_zero, List.set_cons_succ]
      refine wpAnyH_take (i := 31) (v := ?_) (by simp only [List.getElem?_toArray, List.getElem?_cons_succ, List.getElem?_cons_zero]; rfl) (by kernel_rfl) (by kernel_rfl) (by kernel_rfl) (by exact fun _ _ _ h => h) (Or.inl ⟨by rfl, ?_⟩) (by assumption) ?_
      rotate_left
      · (intro _ hSw; (try dsimp only at hSw); go_simp; (try with_reducible rfl))
      try simp only [Act.put, List.setIfInBounds_toArray, List.set_cons_zero, List.set_cons_succ]
      refine wpAnyH_take (i := 32) (v := ?_) (by simp only [List.getElem?_toArray, List.getElem?_cons_succ, List.getElem?_cons_zero]; rfl) (by kernel_rfl) (by kernel_rfl) (by kernel_rfl) (by exact fun _ _ _ h => h) (Or.inl ⟨by rfl, ?_⟩) (by assumption) ?_
      rotate_left
      · (intro _ hSw; (try dsimp only at hSw); go_simp; (try with_reducible rfl))
      try simp only [Act.put, List.setIfInBounds_toArray, List.set_cons_zero, List.set_cons_succ]
      refine wpAnyH_take (i := 33) (v := ?_) (by simp only [List.getElem?_toArray, List.getElem?_cons_succ, List.getElem?_cons_zero]; rfl) (by kernel_rfl) (by kernel_rfl) (by kernel_rfl) (by exact fun _ _ _ h => h) (Or.inl ⟨by rfl, ?_⟩) (by assumption) ?_
      rotate_left
      · (intro _ hSw; (try dsimp only at hSw); go_simp; (try with_reducible rfl))
      try simp only [Act.put, List.setIfInBounds_toArray, List.set_cons_zero, List.set_cons_succ]
      refine wpAnyH_take (i := 34) (v := ?_) (by simp only [List.getElem?_toArray, List.getElem?_cons_succ, List.getElem?_cons_zero]; rfl) (by kernel_rfl) (by kernel_rfl) (by kernel_rfl) (by exact fun _ _ _ h => h) (Or.inl ⟨by rfl, ?_⟩) (by assumption) ?_
      rotate_left
      · (intro _ hSw; (try dsimp only at hSw); go_simp; (try with_reducible rfl))
      try simp only [Act.put, List.setIfInBounds_toArray, List.set_cons_zero, List.set_cons_succ]
      refine wpAnyH_take (i := 35) (v := ?_) (by simp only [List.getElem?_toArray, List.getElem?_cons_succ, List.getElem?_cons_zero]; rfl) (by kernel_rfl) (by kernel_rfl) (by kernel_rfl) (by exact fun _ _ _ h => h) (Or.inl ⟨by rfl, ?_⟩) (by assumption) ?_
      rotate_left
      · (intro _ hSw; (try dsimp only at hSw); go_simp; (try with_reducible rfl))
      try simp only [Act.put, List.setIfInBounds_toArray, List.set_cons_zero, List.set_cons_succ]
      refine wpAnyH_take (i := 36) (v := ?_) (by simp only [List.getElem?_toArray, List.getElem?_cons_succ, List.getElem?_cons_zero]; rfl) (by kernel_rfl) (by kernel_rfl) (by kernel_rfl) (by exact fun _ _ _ h => h) (Or.inl ⟨by rfl, ?_⟩) (by assumption) ?_
      rotate_left
      · (intro _ hSw; (try dsimp only at hSw); go_simp; (try with_reducible rfl))
      try simp only [Act.put, List.setIfInBounds_toArray, List.set_cons_zero, List.set_cons_succ]
      refine wpAnyH_take (i := 37) (v := ?_) (by simp only [List.getElem?_toArray, List.getElem?_cons_succ, List.getElem?_cons_zero]; rfl) (by kernel_rfl) (by kernel_rfl) (by kernel_rfl) (by exact fun _ _ _ h => h) (Or.inl ⟨by rfl, ?_⟩) (by assumption) ?_
      rotate_left
      · (intro _ hSw; (try dsimp only at hSw); go_simp; (try with_reducible rfl))
      try simp only [Act.put, List.setIfInBounds_toArray, List.set_cons_zero, List.set_cons_succ]
      refine wpAnyH_take (i := 38) (v := ?_) (by simp only [List.getElem?_toArray, List.getElem?_cons_succ, List.getElem?_cons_zero]; rfl) (by kernel_rfl) (by kernel_rfl) (by kernel_rfl) (by exact fun _ _ _ h => h) (Or.inl ⟨by rfl, ?_⟩) (by assumption) ?_
      rotate_left
      · (intro _ hSw; (try dsimp only at hSw); go_simp; (try with_reducible rfl))
      try simp only [Act.put, List.setIfInBounds_toArray, List.set_cons_zero, List.set_cons_succ]
      refine wpAnyH_take (i := 39) (v := ?_) (by simp only [List.getElem?_toArray, List.getElem?_cons_succ, List.getElem?_cons_zero]; rfl) (by kernel_rfl) (by kernel_rfl) (by kernel_rfl) (by exact fun _ _ _ h => h) (Or.inl ⟨by rfl, ?_⟩) (by assumption) ?_
      rotate_left
      · (intro _ hSw; (try dsimp only at hSw); go_simp; (try with_reducible rfl))
      try simp only [Act.put, List.setIfInBounds_toArray, List.set_cons_zero, List.set_cons_succ]
      refine wpAnyH_take (i := 40) (v := ?_) (by simp only [List.getElem?_toArray, List.getElem?_cons_succ, List.getElem?_cons_zero]; rfl) (by kernel_rfl) (by kernel_rfl) (by kernel_rfl) (by exact fun _ _ _ h => h) (Or.inl ⟨by rfl, ?_⟩) (by assumption) ?_
      rotate_left
      · (intro _ hSw; (try dsimp only at hSw); go_simp; (try with_reducible rfl))
      try simp only [Act.put, List.setIfInBounds_toArray, List.set_cons_zero, List.set_cons_succ]
      refine wpAnyH_take (i := 41) (v := ?_) (by simp only [List.getElem?_toArray, List.getElem?_cons_succ, List.getElem?_cons_zero]; rfl) (by kernel_rfl) (by kernel_rfl) (by kernel_rfl) (by exact fun _ _ _ h => h) (Or.inl ⟨by rfl, ?_⟩) (by assumption) ?_
      rotate_left
      · (intro _ hSw; (try dsimp only at hSw); go_simp; (try with_reducible rfl))
      try simp only [Act.put, List.setIfInBounds_toArray, List.set_cons_zero, List.set_cons_succ]
      refine wpAnyH_take (i := 42) (v := ?_) (by simp only [List.getElem?_toArray, List.getElem?_cons_succ, List.getElem?_cons_zero]; rfl) (by kernel_rfl) (by kernel_rfl) (by kernel_rfl) (by exact fun _ _ _ h => h) (Or.inl ⟨by rfl, ?_⟩) (by assumption) ?_
      rotate_left
      · (intro _ hSw; (try dsimp only at hSw); go_simp; (try with_reducible rfl))
      try simp only [Act.put, List.setIfInBounds_toArray, List.set_cons_zero, List.set_cons_succ]
      refine wpAnyH_take (i := 43) (v := ?_) (by simp only [List.getElem?_toArray, List.getElem?_cons_succ, List.getElem?_cons_zero]; rfl) (by kernel_rfl) (by kernel_rfl) (by kernel_rfl) (by exact fun _ _ _ h => h) (Or.inl ⟨by rfl, ?_⟩) (by assumption) ?_
      rotate_left
      · (intro _ hSw; (try dsimp only at hSw); go_simp; (try with_reducible rfl))
      try simp only [Act.put, List.setIfInBounds_toArray, List.set_cons_zero, List.set_cons_succ]
      refine wpAnyH_take (i := 44) (v := ?_) (by simp only [List.getElem?_toArray, List.getElem?_cons_succ, List.getElem?_cons_zero]; rfl) (by kernel_rfl) (by kernel_rfl) (by kernel_rfl) (by exact fun _ _ _ h => h) (Or.inl ⟨by rfl, ?_⟩) (by assumption) ?_
      rotate_left
      · (intro _ hSw; (try dsimp only at hSw); go_simp; (try with_reducible rfl))
      try simp only [Act.put, List.setIfInBounds_toArray, List.set_cons_zero, List.set_cons_succ]
      refine wpAnyH_done (by kernel_rfl) ?_ _
      clear hHeld
      go_wp2_with fail
      go_ret
      exact ⟨rfl, ZA.out.1.a.keep⟩
end Go.Proofs.YtkoaiibjahlnmaaGreat
