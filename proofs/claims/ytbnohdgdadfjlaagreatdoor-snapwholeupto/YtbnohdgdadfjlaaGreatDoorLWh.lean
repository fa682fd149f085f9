import Derived.Test.YtbnohdgdadfjlaaGreatDoorLWa
/- SnapWhole: its walk. -/
namespace Go.Proofs.YtbnohdgdadfjlaaGreatDoor
open Go.RowKit Go.Sort Orl Pk Go.Maps
set_option linter.unusedVariables false
set_option linter.unusedSimpArgs false

theorem rd_gen {w : World} {bs : List Nat} {now : Int} {e : Ending} {w' : World} (h : RdTo w bs now e w') (h1 : tickB now = true) : ∃ (g er : Int) (x : Option Addr), e = .returned (.tuple #[.int .i64 g, .pointer x, .int .i64 er]) ∧
    Hid (Keeps no w w' ∧ ((∃ p, g = ((rdG bs : Nat) : Int) ∧ x = some ⟨p, 0, none⟩ ∧ er = 0 ∧ sumOk bs = true ∧ rdOk now bs = true ∧ Ow w w' p (rdS now bs) (rdVs (bodyO bs)).1.length no) ∨ (g = 0 ∧ x = none ∧ er = 90) ∨ (g = 0 ∧ x = none ∧ er = 2))) := by
  rcases h with ⟨h, _⟩ | ⟨_, _, he, hk⟩ | ⟨_, _, _, he, hk⟩ | ⟨_, h2, h3, p, he, ho⟩
  · rw [h1] at h; cases h
  · exact ⟨0, 90, none, he, hk, .inr (.inl ⟨rfl, rfl, rfl⟩)⟩
  · exact ⟨0, 2, none, he, hk, .inr (.inr ⟨rfl, rfl, rfl⟩)⟩
  · exact ⟨_, 0, _, he, ho.keep, .inl ⟨p, rfl, rfl, rfl, h2, h3, ho⟩⟩
theorem owns_at {w : World} {o : Option Addr} {c : Nat} {bs : List Nat} (h : Owns w o c bs) (hl : 1 ≤ bs.length) : ∃ g, o = some ⟨g, 0, none⟩ ∧ g < w.heap.size := by
  rcases h.shape with ⟨_, _, e⟩ | ⟨g, cur, e, hg, _⟩
  · rw [e] at hl; simp at hl
  · exact ⟨g, e, lt_of_block hg⟩
theorem Five.after {P : Nat → Prop} {w0 w w' : World} {A : Nat} {G C : Nat → Nat} {X : Nat → List Nat} (h : Five P w0 w A G C X) {i : Nat} (hi : i < 5) (hk : Keeps (fun b => b = G i) w w') : w'.cell? ⟨A, i, none⟩ = some (.slice (some ⟨G i, 0, none⟩) (X i).length (C i)) ∧ w'.frozen? ⟨A, i, none⟩ = false := by
  obtain ⟨cur, h1, h2, h3⟩ := h.arr
  have := hk.at h1 (fun e => h.na i hi e.symm)
  exact ⟨by rw [cell_of_blk this, h3 i hi], frozen_of_blk this i⟩
theorem brow_lit2 (w : World) : BRow (w.alloc (.cells #[.int .u8 161, .int .u8 162] 5)) (some ⟨w.heap.size, 0, none⟩) [161, 162] := by
  refine ⟨by decide, by decide, .inr ⟨_, 0, rfl, fun j hj => ?_⟩⟩
  rw [cell_of_blk (blk_new w _)]
  match j, hj with
  | 0, _ => rfl
  | 1, _ => rfl
theorem brow_lit1 (w : World) (v : Nat) (hv : v < 256) : BRow (w.alloc (.cells #[.int .u8 ((v : Nat) : Int)] 5)) (some ⟨w.heap.size, 0, none⟩) [v] := by
  refine ⟨by simpa using hv, by simp, .inr ⟨_, 0, rfl, fun j hj => ?_⟩⟩
  rw [cell_of_blk (blk_new w _)]
  match j, hj with
  | 0, _ => rfl
set_option maxRecDepth 10000 in
set_option maxHeartbeats 8000000 in
theorem whole_any (w : World) (a : Option Addr) (n c : Nat) (l : List OV) (L : List PO) (hS : Scr w a n c l L) (a' : Option Addr) (n' c' : Nat) (b0 : List Nat) (hn' : n' = b0.length) (hb' : BSl w a' c' b0) (hl' : b0.length ≤ 1048576) (ht : TabIn w) :
    Calls Tryz.prog 4 #[.slice a n c, .slice a' n' c'] w fun e w' => e = .returned (.bool true) ∧ Keeps no w w' := by
  have HS : Hid (Scr w a n c l L ∧ TabIn w) := ⟨hS, ht⟩
  have HB : Hid (n' = b0.length ∧ BSl w a' c' b0 ∧ b0.length ≤ 1048576) := ⟨hn', hb', hl'⟩
  clear hS ht hn' hb' hl'
  go_enter Tryz.func4, Tryz.ntmps4
  go_wp2_with fail
  refine (alive_any w HS.out.2).mono ?_
  rintro e w1 ⟨rfl, hk1⟩
  have HK1 : Hid (Keeps no w w1) := hk1
  clear hk1
  go_wp2_with fail
  refine (own_any w1 a' n' c' b0 HB.out.1 (by have := HB.out.2.2; omega) (HB.out.2.1.keepsN HK1.out)).mono ?_
  rintro e w2 ⟨co, cn, cc, rfl, H2⟩
  go_wp2_with fail
  refine (read_any w2 co cn cc b0 5 H2.out.1 (BSl.of H2.out.2.1 HB.out.2.1.row.1 (by have := HB.out.2.2; omega)) (by have := HB.out.2.2; omega) (HS.out.2.keepsN (HK1.out.trans H2.out.2.2.2))).mono ?_
  intro e w3 hR
  obtain ⟨g, er, x, rfl, HR⟩ := rd_gen hR (by decide)
  clear hR
  have HK3 : Hid (Keeps no w w3) := (HK1.out.trans H2.out.2.2.2).trans HR.out.1
  go_upto_if 47 with fail
  go_cut [9, 10] from 46 to 84 (fun _ _ wc => Hid (Keeps no w wc))
  case first =>
    rcases HR.out.2 with ⟨p, rfl, rfl, rfl, h2, h3, ho⟩ | ⟨rfl, rfl, rfl⟩ | ⟨rfl, rfl, rfl⟩
    · have hrl := read_laid HB.out.2.1.row.1 h2 h3
      have hgk := hrl.2
      unfold genOk at hgk
      rw [decide_eq_true_eq] at hgk
      have HG : Hid (SnOf (rdS 5 b0) (rdG b0) b0 ∧ 1 ≤ rdG b0 ∧ rdG b0 ≤ 9223372036854775807 ∧ Ow w2 w3 p (rdS 5 b0) 1048576 no) := ⟨hrl.1, hgk.1, hgk.2, ho.more (rd_few HB.out.2.1.row.1 h3 HB.out.2.2)⟩
      clear hrl hgk h2 h3 ho HR
      have hg1 : ¬ ((rdG b0 : Nat) : Int) < 1 := by have := HG.out.2.1; omega
      go_wp2_with fail
      refine (build_any HG.out.2.2.2 (by omega) (HS.out.2.keepsN HK3.out) (rdG b0) HG.out.2.1 HG.out.2.2.1).mono ?_
      rintro e w4 ⟨bo, bn, bc, bs, rfl, H4⟩
      have HEQ : Hid (bs = b0) := SnOf.eq (Sim.refl _) H4.out.sn HG.out.1
      have HB4 : Hid (BRow w4 bo bs ∧ BRow w4 a' b0) := ⟨H4.out.own.row H4.out.byt (by have := H4.out.le; omega), (HB.out.2.1.keepsN (HK3.out.trans H4.out.keep)).row⟩
      go_wp2_with fail
      refine (same_bytes w4 bo bn bc a' n' c' bs b0 H4.out.n HB.out.1 HB4.out.1 HB4.out.2).mono ?_
      rw [decide_eq_true HEQ.out]
      rintro e w5 ⟨rfl, hw5⟩
      subst w5
      go_wp2_with fail
      go_meet
      case rel => exact HK3.out.trans H4.out.keep
    · go_wp2_with fail
      go_meet
      case rel => exact HK3
    · go_wp2_with fail
      go_meet
      case rel => exact HK3
  case rest =>
  rename World => w5
  have HK5 : Hid (Keeps no w w5) := hcut
  clear hcut HK1 H2 HR HK3 HB
  go_wp2_with fail
  refine (HS.out.1.keepsN HK5.out).made.mono ?_
  rintro e w6 ⟨p, rfl, H6⟩
  go_wp2_with fail
  refine (build_any H6.out (by omega) (HS.out.2.keepsN (HK5.out.trans H6.out.keep)) 2 (by omega) (by omega)).mono ?_
  rintro e w7 ⟨o0, n0, c0, bs, rfl, H7⟩
  obtain ⟨g0, rfl, hg0⟩ := owns_at H7.out.own (by have := H7.out.ge; omega)
  go_wp2_with fail
  refine (build_any (H6.out.go H7.out.keep) (by omega) (HS.out.2.keepsN ((HK5.out.trans H6.out.keep).trans H7.out.keep)) 2 (by omega) (by omega)).mono ?_
  rintro e w8 ⟨o1, n1, c1, bs1, rfl, H8⟩
  obtain ⟨g1, rfl, hg1⟩ := owns_at H8.out.own (by have := H8.out.ge; omega)
  have e8 : bs = bs1 := SnOf.eq (Sim.refl _) H7.out.sn H8.out.sn
  subst e8
  have e9 : n0 = n1 := by rw [H7.out.n, H8.out.n]
  subst e9
  have hn25 : ¬ (n0 : Int) < 25 := by have := H7.out.n; have := H7.out.ge; omega
  have hnb : (n0 : Int) ≤ 140737488355228 := by have := H7.out.n; have := H7.out.le; omega
  have HG01 : Hid (w6.heap.size ≤ g0 ∧ g0 < w7.heap.size ∧ w7.heap.size ≤ g1 ∧ g1 < w8.heap.size) := ⟨H7.out.new g0 ⟨_, rfl, rfl⟩, hg0, H8.out.new g1 ⟨_, rfl, rfl⟩, hg1⟩
  have HLB : Hid (n0 = bs.length ∧ bs.length ≤ 140737488355228 ∧ 25 ≤ bs.length ∧ (∀ c ∈ bs, c < 256)) := ⟨H7.out.n, by have := H7.out.le; omega, H7.out.ge, H7.out.byt⟩
  have HK8 : Hid (Keeps no w6 w8 ∧ Keeps no w w8) := ⟨H7.out.keep.trans H8.out.keep, ((HK5.out.trans H6.out.keep).trans H7.out.keep).trans H8.out.keep⟩
  have HO8 : Hid (Owns w8 (some ⟨g0, 0, none⟩) c0 bs ∧ Owns w8 (some ⟨g1, 0, none⟩) c1 bs ∧ SnOf (runO L) 2 bs) := ⟨H7.out.own.keepsN H8.out.keep, H8.out.own, H7.out.sn⟩
  have HRo : Hid (∀ {X : World} {o : Option Addr} {c : Nat}, Owns X o c bs → BRow X o bs ∧ BSl X o c bs) := fun h => ⟨h.row HLB.out.2.2.2 (by have := HLB.out.2.1; omega), BSl.of h HLB.out.2.2.2 (by have := HLB.out.2.1; omega)⟩
  clear H7 H8 hg0 hg1
  go_wp2_with fail
  refine (same_bytes w8 _ n0 c0 _ n0 c1 bs bs HLB.out.1 HLB.out.1 (HRo.out HO8.out.1).1 (HRo.out HO8.out.2.1).1).mono ?_
  rw [decide_eq_true rfl]
  rintro e w9 ⟨rfl, hw9⟩
  subst w9
  go_wp2_with fail
  refine (own_any w8 _ n0 c0 bs HLB.out.1 (by have := HLB.out.2.1; omega) (HRo.out HO8.out.1).2).mono ?_
  rintro e w9 ⟨o4, n4, c4, rfl, H9⟩
  have e9 : n0 = n4 := by rw [H9.out.1, HLB.out.1]
  subst e9
  have HO9 : Hid (Owns w9 o4 c4 bs ∧ New w8 o4 ∧ Keeps no w8 w9) := ⟨H9.out.2.1, H9.out.2.2.1, H9.out.2.2.2⟩
  clear H9
  go_wp2_with (at_builtin; go_must (refine wpList_appB rfl _ _ rfl o4 n0 c4 bs rfl HLB.out.1 (HO9.out.1.keepsN ((Keeps.refl no w9).alloc _)) (some ⟨w9.heap.size, 0, none⟩) 2 2 [161, 162] rfl rfl (fun h => by cases h) (brow_lit2 w9) (by have := HLB.out.1; have := HLB.out.2.1; omega) ?_); intro o5 c5 w10 ho hfr hk; have hfn := hfr.new hk (w0 := w8) HO9.out.2.1 (HO9.out.2.2.alloc _); obtain ⟨g4, hg4, hg4l⟩ := owns_at ho (by simp); subst hg4; have HO10 : Hid (Owns w10 (some ⟨g4, 0, none⟩) c5 (bs ++ [161, 162]) ∧ w8.heap.size ≤ g4 ∧ g4 < w10.heap.size ∧ Keeps no w8 w10) := ⟨ho, hfn.1 g4 ⟨_, rfl, rfl⟩, hg4l, hfn.2⟩; clear ho hfr hk hfn hg4l HO9; have HB4 : Hid (∀ c ∈ bs ++ [161, 162], c < 256) := (app_lt HLB.out.2.2.2 (by decide)); obtain ⟨fA, fd, hcutF, hslF, hsubF⟩ := cut_h w10 (some ⟨g4, 0, none⟩) c5 (bs ++ [161, 162]) (n0 + 2) n0 n0 rfl (by rw [List.length_append, HLB.out.1]; rfl) (by omega) (BSl.of HO10.out.1 HB4.out (by have := HLB.out.2.1; rw [List.length_append]; simp; omega)); rw [List.take_append_of_le_length (Nat.le_of_eq HLB.out.1), List.take_of_length_le (Nat.le_of_eq HLB.out.1.symm)] at hslF; have HSL : Hid (BSl w10 fA fd bs) := hslF; clear hslF hsubF)
  have HLR : Hid (sumOk bs = true ∧ rdOk 5 bs = true ∧ rdG bs = 2 ∧ (∀ m, (rdS 5 bs).V m = (restS 5 (runO L)).V m) ∧ (∀ k, (rdS 5 bs).last k = (runO L).last k) ∧ (rdVs (bodyO bs)).1.length ≤ 1048576) := laid_read H6.out.ok HO8.out.2.2 (by decide) (by decide) (fun ls ks hT => H6.out.ks_le hT) (by decide)
  have HSim : Hid (Sim (rdS 5 bs) (runO L)) := (rest_sim 5 (runO L)).eq_V HLR.out.2.2.2.1 HLR.out.2.2.2.2.1
  refine (read_any w10 fA n0 fd bs 5 HLB.out.1 HSL.out (by have := HLB.out.2.1; omega) (HS.out.2.keepsN (HK8.out.2.trans HO10.out.2.2.2))).mono ?_
  intro e w11 hR
  obtain ⟨py, rfl, h11⟩ := rd_ok hR (by decide) HLR.out.1 HLR.out.2.1
  have H11 : Hid (Ow w10 w11 py (rdS 5 bs) 1048576 no) := h11.out.more HLR.out.2.2.2.2.2
  rw [HLR.out.2.2.1]
  clear hR h11
  have q1 : w11.cell? ⟨g4, n0, none⟩ = some (.int .u8 161) := by
    have := (HO10.out.1.keepsN H11.out.keep).cellAt n0 (by rw [List.length_append, ← HLB.out.1]; simp)
    rw [getD_app_r _ _ _ (Nat.le_of_eq HLB.out.1.symm), ← HLB.out.1, Nat.sub_self] at this
    exact this
  have q2 : w11.cell? ⟨g4, n0 + 1, none⟩ = some (.int .u8 162) := by
    have := (HO10.out.1.keepsN H11.out.keep).cellAt (n0 + 1) (by rw [List.length_append, ← HLB.out.1]; simp)
    rw [getD_app_r _ _ _ (by have := HLB.out.1; omega), ← HLB.out.1, Nat.add_sub_cancel_left] at this
    exact this
  have hi1 : (n0 : Int) < n0 + 2 := by omega
  have hi2 : (n0 : Int) + 1 < n0 + 2 := by omega
  go_wp2_with fail
  refine (same_bytes w11 _ n0 fd _ n0 c0 bs bs HLB.out.1 HLB.out.1 (HSL.out.keepsN H11.out.keep).row (HRo.out (HO8.out.1.keepsN (HO10.out.2.2.2.trans H11.out.keep))).1).mono ?_
  rw [decide_eq_true rfl]
  rintro e wx ⟨rfl, hwx⟩
  subst wx
  go_wp2_with fail
  clear q1 q2 hcutF hi1 hi2
  refine (H11.out.keptN (by omega)).mono ?_
  rintro e w12 ⟨ko, kn, kc, ks, rfl, H12⟩
  have HK12 : Hid (Keeps no w8 w12) := (HO10.out.2.2.2.trans H11.out.keep).trans H12.out.2
  go_wp2_with fail
  refine (own_any w12 _ n0 c0 bs HLB.out.1 (by have := HLB.out.2.1; omega) (HRo.out (HO8.out.1.keepsN HK12.out)).2).mono ?_
  rintro e w13 ⟨o6, n6, c6, rfl, H13⟩
  have e9 : n0 = n6 := by rw [H13.out.1, HLB.out.1]
  subst e9
  obtain ⟨g6, rfl, hg6⟩ := owns_at H13.out.2.1 (by have := HLB.out.2.2.1; omega)
  have HG6 : Hid (w12.heap.size ≤ g6 ∧ g6 < w13.heap.size) := ⟨H13.out.2.2.1 g6 ⟨_, rfl, rfl⟩, hg6⟩
  have HO13 : Hid (Owns w13 (some ⟨g6, 0, none⟩) c6 bs ∧ Keeps no w12 w13) := ⟨H13.out.2.1, H13.out.2.2.2⟩
  clear H13 hg6
  have HK13 : Hid (Keeps no w8 w13 ∧ Keeps no w w13 ∧ Keeps no w11 w13) := ⟨HK12.out.trans HO13.out.2, HK8.out.2.trans (HK12.out.trans HO13.out.2), H12.out.2.trans HO13.out.2⟩
  go_wp2_with fail
  refine (build_any (H11.out.go HK13.out.2.2) (by omega) (HS.out.2.keepsN HK13.out.2.1) 2 (by omega) (by omega)).mono ?_
  rintro e w14 ⟨o2, n2, c2, bs2, rfl, H14⟩
  obtain ⟨g2, rfl, hg2⟩ := owns_at H14.out.own (by have := H14.out.ge; omega)
  have e8 : bs = bs2 := SnOf.eq HSim.out.symm HO8.out.2.2 H14.out.sn
  subst e8
  have e9 : n0 = n2 := by rw [H14.out.n, HLB.out.1]
  subst e9
  go_wp2_with fail
  refine (build_any (H6.out.go (HK8.out.1.trans (HK13.out.1.trans H14.out.keep))) (by omega) (HS.out.2.keepsN (HK13.out.2.1.trans H14.out.keep)) 2 (by omega) (by omega)).mono ?_
  rintro e w15 ⟨o3, n3, c3, bs3, rfl, H15⟩
  obtain ⟨g3, rfl, hg3⟩ := owns_at H15.out.own (by have := H15.out.ge; omega)
  have e8 : bs = bs3 := SnOf.eq (Sim.refl _) HO8.out.2.2 H15.out.sn
  subst e8
  have e9 : n0 = n3 := by rw [H15.out.n, HLB.out.1]
  subst e9
  have HG23 : Hid (w13.heap.size ≤ g2 ∧ g2 < w14.heap.size ∧ w14.heap.size ≤ g3 ∧ g3 < w15.heap.size) := ⟨H14.out.new g2 ⟨_, rfl, rfl⟩, hg2, H15.out.new g3 ⟨_, rfl, rfl⟩, hg3⟩
  have HK15 : Hid (Keeps no w13 w15 ∧ Keeps no w8 w15 ∧ Keeps no w w15) := ⟨H14.out.keep.trans H15.out.keep, HK13.out.1.trans (H14.out.keep.trans H15.out.keep), HK13.out.2.1.trans (H14.out.keep.trans H15.out.keep)⟩
  have HO15 : Hid (Owns w15 (some ⟨g0, 0, none⟩) c0 bs ∧ Owns w15 (some ⟨g1, 0, none⟩) c1 bs ∧ Owns w15 (some ⟨g2, 0, none⟩) c2 bs ∧ Owns w15 (some ⟨g3, 0, none⟩) c3 bs ∧ Owns w15 (some ⟨g4, 0, none⟩) c5 (bs ++ [161, 162]) ∧ Owns w15 (some ⟨g6, 0, none⟩) c6 bs) := ⟨HO8.out.1.keepsN HK15.out.2.1, HO8.out.2.1.keepsN HK15.out.2.1, H14.out.own.keepsN H15.out.keep, H15.out.own, HO10.out.1.keepsN (H11.out.keep.trans (HK13.out.2.2.trans HK15.out.1)), HO13.out.1.keepsN HK15.out.1⟩
  clear hg2 hg3 H14 H15
  go_wp2_with fail
  refine (same_bytes w15 _ n0 c2 _ n0 c6 bs bs HLB.out.1 HLB.out.1 (HRo.out HO15.out.2.2.1).1 (HRo.out HO15.out.2.2.2.2.2).1).mono ?_
  rw [decide_eq_true rfl]
  rintro e wx ⟨rfl, hwx⟩
  subst wx
  go_wp2_with fail
  refine (same_bytes w15 _ n0 c3 _ n0 c6 bs bs HLB.out.1 HLB.out.1 (HRo.out HO15.out.2.2.2.1).1 (HRo.out HO15.out.2.2.2.2.2).1).mono ?_
  rw [decide_eq_true rfl]
  rintro e wx ⟨rfl, hwx⟩
  subst wx
  go_wp2_with fail
  refine (same_bytes w15 _ n0 c1 _ n0 c6 bs bs HLB.out.1 HLB.out.1 (HRo.out HO15.out.2.1).1 (HRo.out HO15.out.2.2.2.2.2).1).mono ?_
  rw [decide_eq_true rfl]
  rintro e wx ⟨rfl, hwx⟩
  subst wx
  go_upto_block 0 with fail
  obtain ⟨G, C, X, hF, hx0, hx1, hx2, hx3, hx4⟩ := five0 (w := w15.alloc (.cells #[.slice (some ⟨g0, 0, none⟩) n0 c0, .slice (some ⟨g1, 0, none⟩) n0 c1, .slice (some ⟨g2, 0, none⟩) n0 c2, .slice (some ⟨g3, 0, none⟩) n0 c3, .slice (some ⟨g4, 0, none⟩) (n0 + 2) c5] 27)) (A := w15.heap.size) ⟨HLB.out.1, HLB.out.1, HLB.out.1, HLB.out.1, by rw [List.length_append, HLB.out.1]; rfl⟩ (blk_new w15 _) (HO15.out.1.keepsN ((Keeps.refl no w15).alloc _)) (HO15.out.2.1.keepsN ((Keeps.refl no w15).alloc _)) (HO15.out.2.2.1.keepsN ((Keeps.refl no w15).alloc _)) (HO15.out.2.2.2.1.keepsN ((Keeps.refl no w15).alloc _)) (HO15.out.2.2.2.2.1.keepsN ((Keeps.refl no w15).alloc _)) (by have := HG01.out; omega) (by have := HG01.out; have := HO10.out.2.1; omega) (by have := HO10.out.2.2.1; have := HG23.out; have := H11.out.keep.size; have := HK13.out.2.2.size; omega) (by have := HG23.out; omega) (by have := HG23.out; omega)
  have HK16 : Hid (Keeps no w15 (w15.alloc (.cells #[.slice (some ⟨g0, 0, none⟩) n0 c0, .slice (some ⟨g1, 0, none⟩) n0 c1, .slice (some ⟨g2, 0, none⟩) n0 c2, .slice (some ⟨g3, 0, none⟩) n0 c3, .slice (some ⟨g4, 0, none⟩) (n0 + 2) c5] 27)) ∧ w15.heap.size < (w15.alloc (.cells #[.slice (some ⟨g0, 0, none⟩) n0 c0, .slice (some ⟨g1, 0, none⟩) n0 c1, .slice (some ⟨g2, 0, none⟩) n0 c2, .slice (some ⟨g3, 0, none⟩) n0 c3, .slice (some ⟨g4, 0, none⟩) (n0 + 2) c5] 27)).heap.size) := ⟨(Keeps.refl no w15).alloc _, by rw [World.size_alloc]; omega⟩
  have HF0 : Hid (Five (fun b => b = g0 ∨ b = g1 ∨ b = g2 ∨ b = g3 ∨ b = g4 ∨ b = w15.heap.size) (w15.alloc (.cells #[.slice (some ⟨g0, 0, none⟩) n0 c0, .slice (some ⟨g1, 0, none⟩) n0 c1, .slice (some ⟨g2, 0, none⟩) n0 c2, .slice (some ⟨g3, 0, none⟩) n0 c3, .slice (some ⟨g4, 0, none⟩) (n0 + 2) c5] 27)) (w15.alloc (.cells #[.slice (some ⟨g0, 0, none⟩) n0 c0, .slice (some ⟨g1, 0, none⟩) n0 c1, .slice (some ⟨g2, 0, none⟩) n0 c2, .slice (some ⟨g3, 0, none⟩) n0 c3, .slice (some ⟨g4, 0, none⟩) (n0 + 2) c5] 27)) w15.heap.size G C X ∧ Ln5 n0 X) := ⟨hF, fun j hj => by
    match j, hj with
    | 0, _ => rw [hx0, HLB.out.1]
    | 1, _ => rw [hx1, HLB.out.1]
    | 2, _ => rw [hx2, HLB.out.1]
    | 3, _ => rw [hx3, HLB.out.1], by rw [hx4, List.length_append, HLB.out.1]; rfl⟩
  clear hF hx0 hx1 hx2 hx3 hx4
  generalize w15.alloc (.cells #[.slice (some ⟨g0, 0, none⟩) n0 c0, .slice (some ⟨g1, 0, none⟩) n0 c1, .slice (some ⟨g2, 0, none⟩) n0 c2, .slice (some ⟨g3, 0, none⟩) n0 c3, .slice (some ⟨g4, 0, none⟩) (n0 + 2) c5] 27) = w16 at HK16 HF0 ⊢
  obtain ⟨A, hA⟩ : ∃ A, A = w15.heap.size := ⟨_, rfl⟩
  rw [← hA] at HF0 HK16 ⊢
  have HA : Hid (A = w15.heap.size) := hA
  clear hA
  have HPP : Hid (∀ b, (b = g0 ∨ b = g1 ∨ b = g2 ∨ b = g3 ∨ b = g4 ∨ b = A) → (w6.heap.size ≤ b ∧ b < w16.heap.size) ∧ ((w6.heap.size ≤ b ∧ b < w10.heap.size) ∨ (w13.heap.size ≤ b ∧ b < w16.heap.size))) := fun b hb => by
    have h1 := HG01.out
    have h2 := HO10.out
    have h3 := HG23.out
    have h4 := HA.out
    have h5 := HK16.out
    have h6 := h5.1.size
    have h7 := HK15.out.1.size
    have h8 := HK13.out.2.2.size
    have h9 := H11.out.keep.size
    have h10 := h2.2.2.2.size
    have h11 := HK8.out.1.size
    rcases hb with rfl | rfl | rfl | rfl | rfl | rfl <;> omega
  obtain ⟨P, hP⟩ : ∃ P : Nat → Prop, P = fun b => b = g0 ∨ b = g1 ∨ b = g2 ∨ b = g3 ∨ b = g4 ∨ b = A := ⟨_, rfl⟩
  rw [← hP] at HF0
  have HPQ : Hid (∀ b, P b → (w6.heap.size ≤ b ∧ b < w16.heap.size) ∧ ((w6.heap.size ≤ b ∧ b < w10.heap.size) ∨ (w13.heap.size ≤ b ∧ b < w16.heap.size))) := fun b hb => HPP.out b (by rw [hP] at hb; exact hb)
  clear hP HPP
  have HI : Hid (Ow w5 w16 p (runO L) 1048576 P ∧ Ow w6 w16 py (rdS 5 bs) 1048576 P ∧ Owns w16 (some ⟨g6, 0, none⟩) c6 bs ∧ ¬ P g6 ∧ Keeps no w12 w16 ∧ Keeps no w w16) := by
    have k1 : Keeps no w6 w16 := HK8.out.1.trans (HK15.out.2.1.trans HK16.out.1)
    have k2 : Keeps no w11 w16 := HK13.out.2.2.trans (HK15.out.1.trans HK16.out.1)
    refine ⟨(H6.out.grow k1).sub (fun b hb => .inr (HPQ.out b hb).1), ((H11.out.older (HK8.out.1.trans HO10.out.2.2.2)).grow k2).sub (fun b hb => ?_), HO15.out.2.2.2.2.2.keepsN HK16.out.1, fun h => ?_, HO13.out.2.trans (HK15.out.1.trans HK16.out.1), HK15.out.2.2.trans HK16.out.1⟩
    · have h1 := (HPQ.out b hb).2
      have h2 := HK13.out.2.2.size
      rcases h1 with h1 | h1
      · exact .inl h1
      · exact .inr ⟨by omega, h1.2⟩
    · have h1 := (HPQ.out g6 h).2
      have h2 := HG6.out
      have h3 := H12.out.2.size
      have h4 := H11.out.keep.size
      omega
  have HKn : Hid (Kn (rdS 5 bs) w11 ks ko kn kc w12 ∧ ∀ b, P b → b < w11.heap.size ∨ w12.heap.size ≤ b) := ⟨H12.out.1, fun b hb => by
    have h1 := (HPQ.out b hb).2
    have h2 := HO13.out.2.size
    have h3 := H11.out.keep.size
    omega⟩
  clear HG01 HO10 HG23 HA HK16 HK15 HK13 H11 HK8 HO13 H12 HO15 HPQ H6 HG6 HK12 HSL
  go_cut [28, 29] from 206 to 226 (fun _ _ wc => Hid (∃ X, Five P w16 wc A G C X ∧ Ln5 n0 X ∧ Wr5 n0 5 0 X))
  case first =>
    go_wp2_with fail
    go_loopw [28, 29] (fun i _ wr => ∃ k : Nat, k ≤ 5 ∧ i = .int .i64 k ∧ Hid (∃ X, Five P w16 wr A G C X ∧ Ln5 n0 X ∧ Wr5 n0 k 0 X)) (fun i _ _ => 5 - (intOf i).toNat)
    case atStart => exact ⟨0, by omega, rfl, X, HF0.out.1, HF0.out.2, fun j hj t ht hc => by omega⟩
    case round =>
      obtain ⟨k, hk, rfl, HQ⟩ := hrel
      rename World => wq
      by_cases hlt : k < 5
      · have hlt' : (k : Int) < 5 := by omega
        go_wp2_with fail
        go_loopw [29] (fun i wr => ∃ j : Nat, j ≤ n0 ∧ i = .int .i64 j ∧ Hid (∃ X, Five P w16 wr A G C X ∧ Ln5 n0 X ∧ Wr5 n0 k j X)) (fun i _ => n0 - (intOf i).toNat)
        case atStart => exact ⟨0, by omega, rfl, HQ⟩
        case round =>
          obtain ⟨j, hj, rfl, HQ2⟩ := hrel
          rename World => wz
          obtain ⟨X2, hF, hL, hW⟩ := HQ2.out
          by_cases hjl : j < n0
          · have hjl' : (j : Int) < n0 := by omega
            have hcell := hF.cell hlt
            have hge := hL.ge hlt
            have hjx : (j : Int) < ((X2 k).length : Int) := by omega
            have hfree := (hF.own k hlt).free j
            have hold := (hF.own k hlt).cellAt j (by omega)
            have hv : (1 + (k : Int)) % 256 = ((1 + k : Nat) : Int) := by omega
            have HN : Hid (∃ X, Five P w16 (wz.setCell ⟨G k, j, none⟩ (.int .u8 ((1 + k : Nat) : Int))) A G C X ∧ Ln5 n0 X ∧ Wr5 n0 k (j + 1) X) := ⟨_, hF.set hlt j (1 + k), hL.set k j (1 + k), hW.set (by omega)⟩
            have HV : Hid (((1 + k : Nat) : Int) = 1 + (k : Int)) := (show _ = _ by omega)
            rw [HV.out] at HN hv
            generalize (X2 k).getD j 0 = xo at hold
            generalize (X2 k).length = xl at hcell hjx hge
            generalize G k = gk at hcell hfree hold HN
            clear hF hL hW HQ2 HQ
            go_wp2_with fail
            go_roundw
            case rel => exact ⟨j + 1, by omega, by go_num, HN⟩
            case measure => simp [intOf]; omega
          · have hjl' : ¬ (j : Int) < n0 := by omega
            have HN : Hid (∃ X, Five P w16 wz A G C X ∧ Ln5 n0 X ∧ Wr5 n0 (k + 1) 0 X) := ⟨X2, hF, hL, hW.next (by omega)⟩
            clear hF hL hW HQ2 HQ
            go_wp2_with fail
            go_roundw
            case rel => exact ⟨k + 1, by omega, by go_num, HN⟩
            case measure => simp [intOf]; omega
      · have hlt' : ¬ (k : Int) < 5 := by omega
        have HN : Hid (∃ X, Five P w16 wq A G C X ∧ Ln5 n0 X ∧ Wr5 n0 5 0 X) := by
          obtain ⟨X2, hF, hL, hW⟩ := HQ.out
          have : k = 5 := by omega
          subst this
          exact ⟨X2, hF, hL, hW⟩
        clear HQ
        go_wp2_with fail
        go_meet
        case rel => exact HN
  case rest =>
  rename World => w17
  have HF1 : Hid (∃ X, Five P w16 w17 A G C X ∧ Ln5 n0 X ∧ Wr5 n0 5 0 X) := hcut
  clear hcut HF0
  go_upto_block 4 with fail
  go_cut [30, 31] from 226 to 246 (fun _ _ wc => Hid (∃ G C X, Five P w16 wc A G C X ∧ Lg5 n0 4 0 X))
  case first =>
    go_wp2_with fail
    go_loopw [30, 31] (fun i _ wr => ∃ k : Nat, k ≤ 4 ∧ i = .int .i64 k ∧ Hid (∃ G C X, Five P w16 wr A G C X ∧ Lg5 n0 k 0 X)) (fun i _ _ => 4 - (intOf i).toNat)
    case atStart =>
      obtain ⟨X1, h1, h2, h3⟩ := HF1.out
      exact ⟨0, by omega, rfl, G, C, X1, h1, lg0 h2 h3⟩
    case round =>
      obtain ⟨k, hk, rfl, HQ⟩ := hrel
      rename World => wq
      by_cases hlt : k < 4
      · have hlt' : (k : Int) < 4 := by omega
        have hlt5 : (k : Int) < 5 := by omega
        go_wp2_with fail
        go_loopw [31] (fun i wr => ∃ j : Nat, j ≤ 80 ∧ i = .int .i64 j ∧ Hid (∃ G C X, Five P w16 wr A G C X ∧ Lg5 n0 k j X)) (fun i _ => 80 - (intOf i).toNat)
        case atStart => exact ⟨0, by omega, rfl, HQ⟩
        case round =>
          obtain ⟨j, hj, rfl, HQ2⟩ := hrel
          rename World => wz
          obtain ⟨G2, C2, X2, hF, hL⟩ := HQ2.out
          by_cases hjl : j < 80
          · have hjl' : (j : Int) < 80 := by omega
            have hcell := hF.cell (i := k) (by omega)
            have hv : (101 + (k : Int)) % 256 = 101 + (k : Int) := by omega
            have HX2 : Hid (Five P w16 wz A G2 C2 X2 ∧ Lg5 n0 k j X2 ∧ (X2 k).length = n0 + j ∧ n0 ≤ 140737488355228) := ⟨hF, hL, hL.b hlt, by omega⟩
            have HBR : Hid (BRow (wz.alloc (.cells #[.int .u8 (101 + (k : Int))] 5)) (some ⟨wz.heap.size, 0, none⟩) [101 + k]) := by
              have := brow_lit1 wz (101 + k) (by omega)
              rw [show ((101 + k : Nat) : Int) = 101 + (k : Int) by omega] at this
              exact this
            have HW : Hid (Keeps no wz (wz.alloc (.cells #[.int .u8 (101 + (k : Int))] 5))) := (Keeps.refl no wz).alloc _
            clear hF hL HQ2 HQ
            go_wp2_with (at_builtin; go_must (refine wpList_appB rfl _ _ rfl (some ⟨G2 k, 0, none⟩) (X2 k).length (C2 k) (X2 k) rfl rfl ((HX2.out.1.own k (by omega)).keepsN HW.out) (some ⟨wz.heap.size, 0, none⟩) 1 1 [101 + k] rfl rfl (fun h => by cases h) HBR.out (by have := HX2.out.2.2; omega) ?_); intro o5 c5 wy ho hfr hk5; obtain ⟨g5, hg5, hg5l⟩ := owns_at ho (by simp); subst hg5; have hk6 := hk5.mono (T := fun b => b = G2 k) (fun b hb => by obtain ⟨x, ex, rfl⟩ := hb; cases ex; rfl); have hfa := (HX2.out.1.keepsN HW.out).after (i := k) (by omega) hk6; have HN : Hid (∃ G C X, Five P w16 (wy.setCell ⟨A, k, none⟩ (.slice (some ⟨g5, 0, none⟩) ((X2 k).length + 1) c5)) A G C X ∧ Lg5 n0 k (j + 1) X) := ⟨_, _, _, (HX2.out.1.keepsN HW.out).app (i := k) (by omega) ho (by simp) (by rcases hfr with e | ⟨g, e, hg⟩; cases e; exact .inl rfl; cases e; exact .inr hg) hk6, HX2.out.2.1.app hlt⟩; have hcl := hfa.1; have hfz := hfa.2; clear ho hfr hk5 hk6 hfa hg5l HX2 HBR HW)
            go_roundw
            case rel => exact ⟨j + 1, by omega, by go_num, HN⟩
            case measure => simp [intOf]; omega
          · have hjl' : ¬ (j : Int) < 80 := by omega
            have HN : Hid (∃ G C X, Five P w16 wz A G C X ∧ Lg5 n0 (k + 1) 0 X) := ⟨G2, C2, X2, hF, (show Lg5 n0 k 80 X2 from (by have e : j = 80 := (by omega); rw [← e]; exact hL)).next hlt⟩
            clear hF hL HQ2 HQ
            go_wp2_with fail
            go_roundw
            case rel => exact ⟨k + 1, by omega, by go_num, HN⟩
            case measure => simp [intOf]; omega
      · have hlt' : ¬ (k : Int) < 4 := by omega
        have HN : Hid (∃ G C X, Five P w16 wq A G C X ∧ Lg5 n0 4 0 X) := by
          obtain ⟨G2, C2, X2, hF, hL⟩ := HQ.out
          have : k = 4 := by omega
          subst this
          exact ⟨G2, C2, X2, hF, hL⟩
        clear HQ
        go_wp2_with fail
        go_meet
        case rel => exact HN
  case rest =>
  rename World => w18
  obtain ⟨G3, C3, X3, hF3, hL3⟩ := hcut.out
  have HF3 : Hid (Five P w16 w18 A G3 C3 X3 ∧ Lg5 n0 4 0 X3) := ⟨hF3, hL3⟩
  clear hcut HF1 hF3 hL3
  go_upto_block 8 with fail
  go_cut [32, 33] from 246 to 293 (fun _ _ wc => wc = w18)
  case first =>
    go_wp2_with fail
    go_loopw [32, 33] (fun i _ wr => ∃ k : Nat, k ≤ 4 ∧ i = .int .i64 k ∧ wr = w18) (fun i _ _ => 4 - (intOf i).toNat)
    case atStart => exact ⟨0, by omega, rfl, rfl⟩
    case round =>
      obtain ⟨k, hk, rfl, rfl⟩ := hrel
      rename World => w18
      by_cases hlt : k < 4
      · have hlt' : (k : Int) < 4 := by omega
        have hlt5 : (k : Int) < 5 := by omega
        have hcell := HF3.out.1.cell (i := k) (by omega)
        have HLn : Hid ((X3 k).length = n0 + 80) := HF3.out.2.a k hlt hlt
        obtain ⟨xl, hxl⟩ : ∃ xl, xl = (X3 k).length := ⟨_, rfl⟩
        rw [← hxl] at hcell
        have HXl : Hid (xl = (X3 k).length) := hxl
        clear hxl
        go_wp2_with fail
        go_loopw [33] (fun i wr => ∃ j : Nat, j ≤ xl ∧ i = .int .i64 j ∧ wr = w18) (fun i _ => xl - (intOf i).toNat)
        case atStart => exact ⟨0, by omega, rfl, rfl⟩
        case round =>
          obtain ⟨j, hj, rfl, rfl⟩ := hrel
          rename World => w18
          have hxb : (xl : Int) ≤ 140737488355328 := by have := HXl.out; have := HLn.out; omega
          by_cases hjl : j < xl
          · have hjl' : (j : Int) < xl := by omega
            have hold := (HF3.out.1.own k (by omega)).cellAt j (by have := HXl.out; omega)
            by_cases hjn : j < n0
            · have hjn' : (j : Int) < n0 := by omega
              have hjn2 : ¬ (j : Int) ≥ n0 := by omega
              have hv : (1 + (k : Int)) % 256 = 1 + (k : Int) := by omega
              rw [HF3.out.2.w k hlt j hjn, show ((1 + k : Nat) : Int) = 1 + (k : Int) by omega] at hold
              go_wp2_with fail
              go_roundw
              case rel => exact ⟨j + 1, by omega, by go_num, trivial⟩
              case measure => simp [intOf]; omega
            · have hjn' : ¬ (j : Int) < n0 := by omega
              have hjn2 : (j : Int) ≥ n0 := by omega
              have hv : (101 + (k : Int)) % 256 = 101 + (k : Int) := by omega
              rw [HF3.out.2.z k hlt j (by omega) (by have := HXl.out; omega), show ((101 + k : Nat) : Int) = 101 + (k : Int) by omega] at hold
              go_wp2_with fail
              go_roundw
              case rel => exact ⟨j + 1, by omega, by go_num, trivial⟩
              case measure => simp [intOf]; omega
          · have hjl' : ¬ (j : Int) < xl := by omega
            go_wp2_with fail
            go_roundw
            case rel => exact ⟨k + 1, by omega, by go_num, trivial⟩
            case measure => simp [intOf]; omega
      · have hlt' : ¬ (k : Int) < 4 := by omega
        go_wp2_with fail
        go_meet
        case rel => rfl
  case rest =>
  rename World => w18
  subst hcut
  have HY : Hid (Ow w5 w18 p (runO L) 1048576 no ∧ Ow w6 w18 py (rdS 5 bs) 1048576 no ∧ Owns w18 (some ⟨g6, 0, none⟩) c6 bs ∧ Kn (rdS 5 bs) w11 ks ko kn kc w18) := by
    have h := HF3.out.1.keep
    refine ⟨(HI.out.1.other h).sub (fun b hb => hb.elim), (HI.out.2.1.other h).sub (fun b hb => hb.elim), HI.out.2.2.1.keeps h (fun b hb => ?_), HKn.out.1.past HI.out.2.2.2.2.1 h HKn.out.2⟩
    obtain ⟨x, ex, rfl⟩ := hb
    cases ex
    exact HI.out.2.2.2.1
  have HK18 : Hid (Keeps no w w18) := HK5.out.trans HY.out.1.keep
  clear HI HKn HF3
  go_wp2_with fail
  refine (build_any HY.out.2.1 (by omega) (HS.out.2.keepsN HK18.out) 2 (by omega) (by omega)).mono ?_
  rintro e w19 ⟨o2, n2, c7, bs2, rfl, H19⟩
  have e8 : bs = bs2 := SnOf.eq HSim.out.symm HO8.out.2.2 H19.out.sn
  subst e8
  go_wp2_with fail
  refine (build_any (HY.out.1.go H19.out.keep) (by omega) (HS.out.2.keepsN (HK18.out.trans H19.out.keep)) 2 (by omega) (by omega)).mono ?_
  rintro e w20 ⟨o3, n3, c8, bs3, rfl, H20⟩
  have e8 : bs = bs3 := SnOf.eq (Sim.refl _) HO8.out.2.2 H20.out.sn
  subst e8
  have HK20 : Hid (Keeps no w18 w20) := H19.out.keep.trans H20.out.keep
  go_wp2_with fail
  refine (same_bytes w20 _ n2 c7 _ n0 c6 bs bs H19.out.n HLB.out.1 (HRo.out (H19.out.own.keepsN H20.out.keep)).1 (HRo.out (HY.out.2.2.1.keepsN HK20.out)).1).mono ?_
  rw [decide_eq_true rfl]
  rintro e wx ⟨rfl, hwx⟩
  subst wx
  go_wp2_with fail
  refine (same_bytes w20 _ n3 c8 _ n0 c6 bs bs H20.out.n HLB.out.1 (HRo.out H20.out.own).1 (HRo.out (HY.out.2.2.1.keepsN HK20.out)).1).mono ?_
  rw [decide_eq_true rfl]
  rintro e wx ⟨rfl, hwx⟩
  subst wx
  go_wp2_with fail
  refine ((HY.out.2.1.go HK20.out).keptN (by omega)).mono ?_
  rintro e w21 ⟨ho, hn, hc, hs, rfl, H21⟩
  go_wp2_with fail
  refine (sameKd true (Sim.refl _) (fun _ _ => rfl) ((HY.out.2.2.2.keepsN HK20.out).keepsN H21.out.2).kd H21.out.1.kd).mono ?_
  rintro e w22 ⟨rfl, hk22⟩
  go_wp2_with fail
  go_ret
  exact ⟨rfl, ((HK18.out.trans HK20.out).trans H21.out.2).trans hk22⟩
end Go.Proofs.YtbnohdgdadfjlaaGreatDoor
