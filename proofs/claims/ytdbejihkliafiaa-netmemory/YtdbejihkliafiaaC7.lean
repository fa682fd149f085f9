/- The net's Flight. -/
import Derived.Test.YtdbejihkliafiaaC6
namespace Go.Proofs.Ytdbejihkliafiaa
open Go.RowKit Go.Sort
set_option linter.unusedVariables false
set_option linter.unusedSimpArgs false

theorem made_cellsF (n : Nat) : (madeCells #[.int .i64 0, .int .i64 0, .int .i64 0, .slice none 0 0] (n * 4)).toList = FE.cells (List.replicate n rf0) := by
  apply List.ext_getElem?
  intro m
  by_cases hm : m < n * 4
  · have h := cells_at okF rf0 (List.replicate n rf0) (m / 4) (m % 4) (by rw [List.length_replicate]; omega) (show m % 4 < 4 by omega)
    rw [show m / 4 * FE.k + m % 4 = m from by show m / 4 * 4 + m % 4 = m; omega] at h
    rw [h]
    have e : (List.replicate n rf0).getD (m / 4) rf0 = rf0 := by simp [List.getD_eq_getElem?_getD, List.getElem?_replicate]; split <;> rfl
    rw [e]
    unfold madeCells
    rw [Array.getElem?_toList, Array.getElem?_map, Array.getElem?_range, if_pos hm]
    have h4 : m % 4 = 0 ∨ m % 4 = 1 ∨ m % 4 = 2 ∨ m % 4 = 3 := by omega
    simp only [Option.map_some]
    show some ((#[.int .i64 0, .int .i64 0, .int .i64 0, .slice none 0 0] : Array Value)[m % 4]!) = _
    rcases h4 with h4 | h4 | h4 | h4 <;> rw [h4] <;> rfl
  · have h1 : (FE.cells (List.replicate n rf0)).length = n * 4 := by rw [cells_length okF, List.length_replicate]; rfl
    rw [List.getElem?_eq_none (by rw [Array.length_toList, size_madeCells]; omega), List.getElem?_eq_none (by rw [h1]; omega)]
theorem getD_set {α : Type} (l : List α) (i j : Nat) (x d : α) (hi : i < l.length) : (l.set i x).getD j d = if j = i then x else l.getD j d := by
  simp only [List.getD_eq_getElem?_getD, List.getElem?_set]
  by_cases e : i = j
  · subst e; simp [hi]
  · rw [if_neg e, if_neg (fun h => e h.symm)]
/-- the first i are told -/
structure Tf (w wr : World) (B n i : Nat) (rs : List RF) (fs : List Fr) : Prop where
  own : Own FE wr (some ⟨B, 0, none⟩) n rs
  len : rs.length = fs.length
  n : n = fs.length
  each : ∀ j, j < i → FOf wr (rs.getD j rf0) (fs.getD j fr0)
  new : ∀ j, j < i → ∀ k, zO (rs.getD j rf0).o (rs.getD j rf0).c k → B < k
  sep : ∀ a b, a < b → b < i → ∀ k, zO (rs.getD a rf0).o (rs.getD a rf0).c k → ¬ zO (rs.getD b rf0).o (rs.getD b rf0).c k
  kp : Keeps no w wr
  bw : w.heap.size ≤ B
theorem Tf.step {w wr w1 : World} {B n i : Nat} {rs : List RF} {fs : List Fr} (h : Tf w wr B n i rs fs) (hi : i < fs.length) {r : RF} (k1 : Keeps no wr w1) (hr : FOf w1 r (fs.getD i fr0)) (hn : ∀ k, zO r.o r.c k → wr.heap.size ≤ k) :
    (∀ j, w1.frozen? ⟨B, j, none⟩ = false) ∧ Tf w (w1.setCells B (i * 4) (FE.enc r)) B n (i + 1) (rs.set i r) fs := by
  have hB : B < wr.heap.size := h.own.lt B ⟨_, rfl, rfl⟩
  have hir : i < rs.length := by rw [h.len]; exact hi
  obtain ⟨g, eg, hf, ho, hk⟩ := (h.own.keepsN k1).storeE okF i hir r
  cases eg
  have hkB : Keeps (fun k => k = B) w1 (w1.setCells B (i * 4) (FE.enc r)) := keeps_setCells _ _ _
  refine ⟨hf, ho, by rw [List.length_set]; exact h.len, h.n, fun j hj => ?_, fun j hj k hz => ?_, fun a b hab hb k ha hz => ?_, (h.kp.trans k1).then hkB (fun k e => .inr (by subst e; exact h.bw)), h.bw⟩
  · rw [getD_set _ _ _ _ _ hir]
    by_cases e : j = i
    · rw [if_pos e, e]
      exact hr.keeps hkB (fun k hz e => by have := hn k hz; omega)
    · rw [if_neg e]
      exact ((h.each j (by omega)).keepsN k1).keeps hkB (fun k hz e => by have := h.new j (by omega) k hz; omega)
  · rw [getD_set _ _ _ _ _ hir] at hz
    by_cases e : j = i
    · rw [if_pos e] at hz; have := hn k hz; omega
    · rw [if_neg e] at hz; exact h.new j (by omega) k hz
  · rw [getD_set _ _ _ _ _ hir] at ha hz
    rw [if_neg (by omega)] at ha
    by_cases e : b = i
    · rw [if_pos e] at hz
      have h1 := hn k hz
      have h2 := (h.each a (by omega)).bz.lt k ha
      omega
    · rw [if_neg e] at hz
      exact h.sep a b hab (by omega) k ha hz
set_option maxRecDepth 10000 in
set_option maxHeartbeats 4000000 in
theorem nFlight_any (w : World) (p : Nat) (F : Nat → Prop) (s : NS) (K : Nat) (h : IsN w p F s) (hw : NWf s K) (hK : K ≤ 2600000000000) :
    Calls Try.prog 16 #[.pointer (some ⟨p, 0, none⟩)] w (FTo FE w s.fl) := by
  obtain ⟨o, n, c, h⟩ := h
  obtain ⟨-, -, -, c3⟩ := h.cells
  have hnl := h.n
  have hnb : (n : Int) ≤ 2600000000000 := by have := hw.len; have := hw.num; omega
  have HL : Hid (NuL w p F s o n c ∧ NWf s K ∧ n = s.fl.length) := ⟨h, hw, h.n⟩
  have HC3 : Hid (∀ X, Keeps no w X → X.cell? ⟨p, 3, none⟩ = some (.slice o n c)) := fun X k => k.cellN c3
  obtain ⟨i0, hi, hz0, hz1, hz2⟩ := info_parts infoFE
  have HM : Hid (i0.bytes * n ≤ 281474976710656 ∧ n ≤ maxLen) := by
    rw [hz2]; unfold maxLen
    exact ⟨by omega, by omega⟩
  obtain ⟨B, hB⟩ : ∃ B, B = w.heap.size := ⟨_, rfl⟩
  have HB : Hid (B = w.heap.size) := hB
  have HMK : Hid (∀ w1, w1.ownsRow 0 33 4 (.slice (some ⟨w.heap.size, 0, none⟩) n n) n (madeCells (Value.agg #[.int .i64 0, .int .i64 0, .int .i64 0, .slice none 0 0]).cells (n * 4)).toList → w.grownBy w1 none → Tf w w1 B n 0 (List.replicate n rf0) s.fl ∧ w1.cell? ⟨p, 3, none⟩ = some (.slice o n c)) := by
    intro w1 ho hg
    have kp : Keeps no w w1 := (Keeps.refl no w).grown hg (fun k hk => by cases hk)
    have ho' : w1.ownsRow 0 33 4 (.slice (some ⟨w.heap.size, 0, none⟩) n n) n (FE.cells (List.replicate n rf0)) := by
      rw [← made_cellsF]; exact ho
    refine ⟨⟨?_, by simp [hnl], hnl, fun j hj => absurd hj (by omega), fun j hj => absurd hj (by omega), fun a b _ hb => absurd hb (by omega), kp, by rw [hB]; exact Nat.le_refl _⟩, kp.cellN c3⟩
    unfold Own
    rw [List.length_replicate, hB]
    exact ho'
  clear h hw hK hnl hz2
  go_enter Try.func16, Try.ntmps16
  go_upto_region 2 with (refine wpList_make_full _ rfl _ _ _ rfl 0 33 i0 _ 4 Try.underlying44 hi hz0 hz1 .i64 .i64 _ _ n rfl rfl rfl rfl HM.out.1 HM.out.2 (Nat.zero_le _) ?_; intro w1 ho1 hg1)
  obtain ⟨hT1, d3⟩ := HMK.out w1 ho1 hg1
  have HT1 : Hid (Tf w w1 B n 0 (List.replicate n rf0) s.fl) := hT1
  rw [← hB]
  clear ho1 hg1 hT1 HMK hi hz0 hz1 HM c3 hB
  go_wp2_with fail
  go_loopw [4, 5, 17] (fun _ _ s17 wr => ∃ i : Nat, i ≤ n ∧ s17 = .int .i64 i ∧ Hid (∃ rs, Tf w wr B n i rs s.fl)) (fun _ _ s17 _ => n - (intOf s17).toNat)
  case atStart => exact ⟨0, by omega, rfl, _, HT1.out⟩
  case round =>
    rename World => wr
    obtain ⟨i, hi, rfl, HC⟩ := hrel
    obtain ⟨rs, hC⟩ := HC.out
    have hib : (i : Int) ≤ 2600000000000 := by omega
    by_cases hlt : i < n
    · have hlt' : (i : Int) < n := by omega
      have hif : i < s.fl.length := by rw [← HL.out.2.2]; exact hlt
      obtain ⟨g, off, rfl, a0, a1, a2, a3⟩ := win_at (HL.out.1.win.keepsN hC.kp) hif
      have hfe := HL.out.2.1.each _ (getD_mem_lt fr0 hif)
      have HCC : Hid (Tf w wr B n i rs s.fl ∧ i < s.fl.length) := ⟨hC, hif⟩
      obtain ⟨f, hf⟩ : ∃ f, f = s.fl.getD i fr0 := ⟨_, rfl⟩
      rw [← hf] at a0 a1 a2 a3 hfe
      have HF : Hid (f = s.fl.getD i fr0 ∧ f.bs.length ≤ 140737488355328) := ⟨hf, hfe.2.1⟩
      obtain ⟨q0, q1, q2, q3⟩ := f
      simp only at a0 a1 a2 a3
      obtain ⟨b0, eb, _, B4⟩ := own_at4 okF hC.own (j := i) (by rw [hC.len]; exact hif)
      cases eb
      have HB4 : Hid (∀ X, Keeps no wr X → At4 X B 0 i (rs.getD i rf0)) := fun X k => ⟨k.cellN B4.c0, k.cellN B4.c1, k.cellN B4.c2, k.cellN B4.c3⟩
      clear hC HC hf hfe hif B4
      go_upto_region 5 with fail
      have u0 := blk_new wr (.cells #[.int .i64 (q0 : Nat), .int .i64 q1, .int .i64 q2, .string (mkT q3)] 67)
      have HU : Hid (Keeps no wr (wr.alloc (.cells #[.int .i64 (q0 : Nat), .int .i64 q1, .int .i64 q2, .string (mkT q3)] 67))) := (Keeps.refl _ _).alloc _
      generalize wr.alloc (.cells #[.int .i64 (q0 : Nat), .int .i64 q1, .int .i64 q2, .string (mkT q3)] 67) = U at u0 HU ⊢
      have z0 := cell_of_blk u0 0
      have z1 := cell_of_blk u0 1
      have z2 := cell_of_blk u0 2
      have z3 := cell_of_blk u0 3
      simp only [List.getElem?_toArray, List.getElem?_cons_succ, List.getElem?_cons_zero] at z0 z1 z2 z3
      clear u0 a0 a1 a2 a3
      go_wp2_with fail
      refine (frame_any U ⟨q0, q1, q2, q3⟩ HF.out.2).mono ?_
      rintro e w2 ⟨r, rfl, hr, hrn, hrk⟩
      have hst := HCC.out.1.step HCC.out.2 (r := r) (HU.out.trans hrk) (by rw [← HF.out.1]; exact hr) (fun k hk => Nat.le_trans HU.out.size (hrn k hk))
      obtain ⟨b0, b1, b2, b3⟩ := HB4.out w2 (HU.out.trans hrk)
      obtain ⟨r0, r1, r2, ro, rn, rc⟩ := r
      unfold aggF
      simp only
      have f0 := hst.1 (i * 4)
      have f1 := hst.1 (i * 4 + 1)
      have f2 := hst.1 (i * 4 + 2)
      have f3 := hst.1 (i * 4 + 3)
      have HST : Hid (Tf w (w2.setCells B (i * 4) [.int .i64 (r0 : Nat), .int .i64 r1, .int .i64 r2, .slice ro rn rc]) B n (i + 1) (rs.set i ⟨r0, r1, r2, ro, rn, rc⟩) s.fl) := hst.2
      simp only [Nat.zero_add] at b0 b1 b2 b3
      generalize rs.getD i rf0 = y at b0 b1 b2 b3
      obtain ⟨y0, y1, y2, yo, yn, yc⟩ := y
      simp only at b0 b1 b2 b3
      clear hst hr hrn hrk z0 z1 z2 z3 HB4
      go_wp2_with fail
      go_roundw
      case rel => exact ⟨i + 1, by omega, by go_num, _, HST.out⟩
      case measure => simp [intOf]; omega
    · have hin : i = n := by omega
      have hlt' : ¬ (i : Int) < n := by omega
      have HE : Hid (FTo FE w s.fl (.returned (.slice (some ⟨B, 0, none⟩) n n)) wr) := by
        refine ⟨some ⟨B, 0, none⟩, n, n, rs, rfl, HL.out.2.2, .inr ⟨hC.own, hC.len, fun j hj => hC.each j (by rw [hin, HL.out.2.2]; exact hj), fun a b hab hb => hC.sep a b hab (by rw [hin, HL.out.2.2]; exact hb)⟩, fun k _ hk => ?_, hC.kp⟩
        rcases hk with ⟨x, ex, rfl⟩ | ⟨j, hj, hz⟩
        · cases ex; exact hC.bw
        · have h1 := hC.new j (by rw [hin, HL.out.2.2]; exact hj) k hz
          have h2 := hC.bw
          omega
      clear hC HC
      go_wp2_with fail
      go_ret
      exact HE.out
end Go.Proofs.Ytdbejihkliafiaa
