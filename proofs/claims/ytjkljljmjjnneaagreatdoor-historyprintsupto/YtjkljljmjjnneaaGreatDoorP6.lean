/- readAnswer. -/
import Derived.Test.YtjkljljmjjnneaaGreatDoorP5
namespace Go.Proofs.YtjkljljmjjnneaaGreatDoor
open Go.RowKit Go.Sort Orl
set_option linter.unusedVariables false
set_option linter.unusedSimpArgs false

def ansE (c t : Nat) (word : List UInt8) (p : List (List UInt8)) : Option Eb := if resR word = 0 then none else match p with
  | [] => none
  | x :: rest => match numR x, mapR verR rest with
    | some i, some vs => some ⟨3, c, t, 0, [], [], resR word, i, vs⟩
    | _, _ => none
set_option maxRecDepth 10000 in
set_option maxHeartbeats 8000000 in
theorem readAnswer_any (w : World) (hv : Vs w) (c t : Nat) (wd : ByteArray) (o : Option Addr) (n : Nat) (xs : List Tx) (hn : n = xs.length) (hs : Sl TE w o n xs) (hz : ∀ x ∈ xs, x.size ≤ 4294967000) (hb : xs.length ≤ 4294967001) :
    Calls Tryz.prog 48 #[.agg #[.int .i64 0, .int .i64 (c : Nat), .int .i64 (t : Nat), .int .u64 0, .slice none 0 0, .slice none 0 0, .int .i64 0, .int .i64 0, .int .u64 0, .slice none 0 0], .string wd, .slice o n n] w (EbTo w (ansE c t wd.data.toList (bts xs))) := by
  obtain ⟨B, hB⟩ : ∃ B, B = w.heap.size := ⟨_, rfl⟩
  have HA : Hid (∀ W, W = (w.alloc (.cells #[.int .i64 0, .int .i64 (c : Nat), .int .i64 (t : Nat), .int .u64 0, .slice none 0 0, .slice none 0 0, .int .i64 0, .int .i64 0, .int .u64 0, .slice none 0 0] 36)).alloc (.cells c0E 36) → E2 w W B #[.int .i64 0, .int .i64 (c : Nat), .int .i64 (t : Nat), .int .u64 0, .slice none 0 0, .slice none 0 0, .int .i64 0, .int .i64 0, .int .u64 0, .slice none 0 0]) := by
    rintro W rfl
    refine ⟨?_, ?_, ((Keeps.refl _ _).alloc _).alloc _, Nat.le_of_eq hB.symm⟩
    · rw [hB]; exact blk_alloc (blk_new w _) _
    · have e : (w.alloc (.cells #[.int .i64 0, .int .i64 (c : Nat), .int .i64 (t : Nat), .int .u64 0, .slice none 0 0, .slice none 0 0, .int .i64 0, .int .i64 0, .int .u64 0, .slice none 0 0] 36)).heap.size = B + 1 := by rw [hB]; exact Array.size_push _
      rw [← e]; exact blk_new _ _
  have HX : Hid (Vs w ∧ n = xs.length ∧ Sl TE w o n xs ∧ (∀ x ∈ xs, x.size ≤ 4294967000) ∧ xs.length ≤ 4294967001) := ⟨hv, hn, hs, hz, hb⟩
  have hnb : (n : Int) ≤ 4294967001 := by omega
  clear hv hn hs hz hb
  go_enter Tryz.func48, Tryz.ntmps48
  go_upto_region 1 with fail
  have h1 := HA.out _ rfl
  generalize (w.alloc (.cells #[.int .i64 0, .int .i64 (c : Nat), .int .i64 (t : Nat), .int .u64 0, .slice none 0 0, .slice none 0 0, .int .i64 0, .int .i64 0, .int .u64 0, .slice none 0 0] 36)).alloc (.cells c0E 36) = w1 at h1 ⊢
  rw [← hB]
  have H1 : Hid (E2 w w1 B #[.int .i64 0, .int .i64 (c : Nat), .int .i64 (t : Nat), .int .u64 0, .slice none 0 0, .slice none 0 0, .int .i64 0, .int .i64 0, .int .u64 0, .slice none 0 0]) := h1
  clear HA hB h1
  have HRO := resultOf_any w1 (HX.out.1.keepsN H1.out.kp).word wd
  have hq6 := resR_le wd.data.toList
  have HANS : Hid (ansE c t wd.data.toList (bts xs) = if resR wd.data.toList = 0 then none else match bts xs with
    | [] => none
    | x :: rest => match numR x, mapR verR rest with
      | some i, some vs => some ⟨3, c, t, 0, [], [], resR wd.data.toList, i, vs⟩
      | _, _ => none) := rfl
  generalize resR wd.data.toList = q at HRO hq6 HANS
  go_wp2_with fail
  refine HRO.mono ?_
  rintro e w9 ⟨rfl, hw9⟩
  subst hw9
  clear HRO
  by_cases hq0 : q = 0
  · have hq0' : ((q : Nat) : Int) = 0 := by omega
    have hqb : (((q : Nat) : Int) == 0) = true := by rw [hq0']; rfl
    have HE : Hid (ansE c t wd.data.toList (bts xs) = none) := by show _ = _; rw [HANS.out, if_pos hq0]
    clear HANS
    rename World => WW
    have z0 := cell_of_blk H1.out.b1 0
    have z1 := cell_of_blk H1.out.b1 1
    have z2 := cell_of_blk H1.out.b1 2
    have z3 := cell_of_blk H1.out.b1 3
    have z4 := cell_of_blk H1.out.b1 4
    have z5 := cell_of_blk H1.out.b1 5
    have z6 := cell_of_blk H1.out.b1 6
    have z7 := cell_of_blk H1.out.b1 7
    have z8 := cell_of_blk H1.out.b1 8
    have z9 := cell_of_blk H1.out.b1 9
    simp only [List.getElem?_toArray, List.getElem?_cons_succ, List.getElem?_cons_zero] at z0 z1 z2 z3 z4 z5 z6 z7 z8 z9
    have y0 := cell_of_blk H1.out.b2 0
    have y1 := cell_of_blk H1.out.b2 1
    have y2 := cell_of_blk H1.out.b2 2
    have y3 := cell_of_blk H1.out.b2 3
    have y4 := cell_of_blk H1.out.b2 4
    have y5 := cell_of_blk H1.out.b2 5
    have y6 := cell_of_blk H1.out.b2 6
    have y7 := cell_of_blk H1.out.b2 7
    have y8 := cell_of_blk H1.out.b2 8
    have y9 := cell_of_blk H1.out.b2 9
    simp only [List.getElem?_toArray, List.getElem?_cons_succ, List.getElem?_cons_zero] at y0 y1 y2 y3 y4 y5 y6 y7 y8 y9
    have fy0 := frozen_of_blk H1.out.b2 0
    have fy1 := frozen_of_blk H1.out.b2 1
    have fy2 := frozen_of_blk H1.out.b2 2
    have fy3 := frozen_of_blk H1.out.b2 3
    have fy4 := frozen_of_blk H1.out.b2 4
    have fy5 := frozen_of_blk H1.out.b2 5
    have fy6 := frozen_of_blk H1.out.b2 6
    have fy7 := frozen_of_blk H1.out.b2 7
    have fy8 := frozen_of_blk H1.out.b2 8
    have fy9 := frozen_of_blk H1.out.b2 9
    have HF : Hid (∀ W', W' = set10 WW (B + 1) (⟨0, c, t, 0, none, 0, 0, none, 0, 0, 0, 0, 0, none, 0, 0⟩ : RE) → W'.heap[B + 1]? = some (.cells (cellsE (⟨0, c, t, 0, none, 0, 0, none, 0, 0, 0, 0, 0, none, 0, 0⟩ : RE)).toArray 36 (0, 0)) ∧ Keeps no w W' ∧ Keeps (fun k => k = B + 1) WW W') := by
      rintro W' rfl
      exact H1.out.fin (⟨0, c, t, 0, none, 0, 0, none, 0, 0, 0, 0, 0, none, 0, 0⟩ : RE)
    unfold set10 at HF
    simp only at HF
    go_wp2_with fail
    refine bodyPost_ret (results_row2 rfl _ _ (B + 1) _ rfl (run_loadVar_row _ _ _ _ _ _ _ (HF.out _ rfl).1 Tryz.underlying36 rfl (ev_size _ _ _ _ _ _ _ _ _ _))) rfl ?_
    exact ⟨(⟨0, c, t, 0, none, 0, 0, none, 0, 0, 0, 0, 0, none, 0, 0⟩ : RE), by rw [HE.out]; rfl, (HF.out _ rfl).2.1, fun y e => by rw [HE.out] at e; cases e⟩
  · have hq0' : ¬ ((q : Nat) : Int) = 0 := by omega
    have hqb : (((q : Nat) : Int) == 0) = false := by rw [beq_eq_false_iff_ne]; exact hq0'
    by_cases h0 : n = 0
    · have h0' : (n : Int) = 0 := by omega
      have hnb0 : ((n : Int) == 0) = true := by rw [h0']; rfl
      have HE : Hid (ansE c t wd.data.toList (bts xs) = none) := by
        show _ = _
        have e : xs = [] := List.length_eq_zero_iff.1 (by rw [← HX.out.2.1]; exact h0)
        rw [HANS.out, if_neg hq0, e]; rfl
      clear HANS
      rename World => WW
      have z0 := cell_of_blk H1.out.b1 0
      have z1 := cell_of_blk H1.out.b1 1
      have z2 := cell_of_blk H1.out.b1 2
      have z3 := cell_of_blk H1.out.b1 3
      have z4 := cell_of_blk H1.out.b1 4
      have z5 := cell_of_blk H1.out.b1 5
      have z6 := cell_of_blk H1.out.b1 6
      have z7 := cell_of_blk H1.out.b1 7
      have z8 := cell_of_blk H1.out.b1 8
      have z9 := cell_of_blk H1.out.b1 9
      simp only [List.getElem?_toArray, List.getElem?_cons_succ, List.getElem?_cons_zero] at z0 z1 z2 z3 z4 z5 z6 z7 z8 z9
      have y0 := cell_of_blk H1.out.b2 0
      have y1 := cell_of_blk H1.out.b2 1
      have y2 := cell_of_blk H1.out.b2 2
      have y3 := cell_of_blk H1.out.b2 3
      have y4 := cell_of_blk H1.out.b2 4
      have y5 := cell_of_blk H1.out.b2 5
      have y6 := cell_of_blk H1.out.b2 6
      have y7 := cell_of_blk H1.out.b2 7
      have y8 := cell_of_blk H1.out.b2 8
      have y9 := cell_of_blk H1.out.b2 9
      simp only [List.getElem?_toArray, List.getElem?_cons_succ, List.getElem?_cons_zero] at y0 y1 y2 y3 y4 y5 y6 y7 y8 y9
      have fy0 := frozen_of_blk H1.out.b2 0
      have fy1 := frozen_of_blk H1.out.b2 1
      have fy2 := frozen_of_blk H1.out.b2 2
      have fy3 := frozen_of_blk H1.out.b2 3
      have fy4 := frozen_of_blk H1.out.b2 4
      have fy5 := frozen_of_blk H1.out.b2 5
      have fy6 := frozen_of_blk H1.out.b2 6
      have fy7 := frozen_of_blk H1.out.b2 7
      have fy8 := frozen_of_blk H1.out.b2 8
      have fy9 := frozen_of_blk H1.out.b2 9
      have HF : Hid (∀ W', W' = set10 WW (B + 1) (⟨0, c, t, 0, none, 0, 0, none, 0, 0, 0, 0, 0, none, 0, 0⟩ : RE) → W'.heap[B + 1]? = some (.cells (cellsE (⟨0, c, t, 0, none, 0, 0, none, 0, 0, 0, 0, 0, none, 0, 0⟩ : RE)).toArray 36 (0, 0)) ∧ Keeps no w W' ∧ Keeps (fun k => k = B + 1) WW W') := by
        rintro W' rfl
        exact H1.out.fin (⟨0, c, t, 0, none, 0, 0, none, 0, 0, 0, 0, 0, none, 0, 0⟩ : RE)
      unfold set10 at HF
      simp only at HF
      go_wp2_with fail
      refine bodyPost_ret (results_row2 rfl _ _ (B + 1) _ rfl (run_loadVar_row _ _ _ _ _ _ _ (HF.out _ rfl).1 Tryz.underlying36 rfl (ev_size _ _ _ _ _ _ _ _ _ _))) rfl ?_
      exact ⟨(⟨0, c, t, 0, none, 0, 0, none, 0, 0, 0, 0, 0, none, 0, 0⟩ : RE), by rw [HE.out]; rfl, (HF.out _ rfl).2.1, fun y e => by rw [HE.out] at e; cases e⟩
    · have h0' : ¬ (n : Int) = 0 := by omega
      have hnb0 : ((n : Int) == 0) = false := by rw [beq_eq_false_iff_ne]; exact h0'
      have hx0 : 0 < xs.length := by have := HX.out.2.1; omega
      obtain ⟨g, off, rfl, d0⟩ := tx_at (HX.out.2.2.1.keepsN H1.out.kp) (j := 0) hx0
      simp only [Nat.add_zero] at d0
      have hP0 : (bts xs) = (xs.getD 0 e0).data.toList :: bts (xs.drop 1) := by
        cases hxs : xs with
        | nil => rw [hxs] at hx0; simp at hx0
        | cons a l => rfl
      have hz0 := HX.out.2.2.2.1 _ (getD_mem_lt e0 hx0)
      generalize xs.getD 0 e0 = x0 at d0 hP0 hz0
      rename World => w8
      have HN := readNumber_any w8 (HX.out.1.keepsN H1.out.kp) x0 (by omega)
      have HPV : Hid (ansE c t wd.data.toList (bts xs) = match numR x0.data.toList, mapR verR (bts (xs.drop 1)) with
        | some i, some vs => some ⟨3, c, t, 0, [], [], q, i, vs⟩
        | _, _ => none) := by show _ = _; rw [HANS.out, if_neg hq0, hP0]
      clear hP0 hz0 hx0 HANS
      go_wp2_with fail
      refine HN.mono ?_
      rintro e w2 ⟨i, rfl, hi, hk2⟩
      have H2 : Hid (E2 w w2 B #[.int .i64 0, .int .i64 (c : Nat), .int .i64 (t : Nat), .int .u64 0, .slice none 0 0, .slice none 0 0, .int .i64 0, .int .i64 0, .int .u64 0, .slice none 0 0]) := H1.out.keepsN hk2
      clear hk2 d0 HN H1
      cases hr : numR x0.data.toList with
      | none =>
        have HE : Hid (ansE c t wd.data.toList (bts xs) = none) := by show _ = _; rw [HPV.out, hr]
        clear hi
        generalize hWW : w2 = WW at H2 ⊢
        have z0 := cell_of_blk H2.out.b1 0
        have z1 := cell_of_blk H2.out.b1 1
        have z2 := cell_of_blk H2.out.b1 2
        have z3 := cell_of_blk H2.out.b1 3
        have z4 := cell_of_blk H2.out.b1 4
        have z5 := cell_of_blk H2.out.b1 5
        have z6 := cell_of_blk H2.out.b1 6
        have z7 := cell_of_blk H2.out.b1 7
        have z8 := cell_of_blk H2.out.b1 8
        have z9 := cell_of_blk H2.out.b1 9
        simp only [List.getElem?_toArray, List.getElem?_cons_succ, List.getElem?_cons_zero] at z0 z1 z2 z3 z4 z5 z6 z7 z8 z9
        have y0 := cell_of_blk H2.out.b2 0
        have y1 := cell_of_blk H2.out.b2 1
        have y2 := cell_of_blk H2.out.b2 2
        have y3 := cell_of_blk H2.out.b2 3
        have y4 := cell_of_blk H2.out.b2 4
        have y5 := cell_of_blk H2.out.b2 5
        have y6 := cell_of_blk H2.out.b2 6
        have y7 := cell_of_blk H2.out.b2 7
        have y8 := cell_of_blk H2.out.b2 8
        have y9 := cell_of_blk H2.out.b2 9
        simp only [List.getElem?_toArray, List.getElem?_cons_succ, List.getElem?_cons_zero] at y0 y1 y2 y3 y4 y5 y6 y7 y8 y9
        have fy0 := frozen_of_blk H2.out.b2 0
        have fy1 := frozen_of_blk H2.out.b2 1
        have fy2 := frozen_of_blk H2.out.b2 2
        have fy3 := frozen_of_blk H2.out.b2 3
        have fy4 := frozen_of_blk H2.out.b2 4
        have fy5 := frozen_of_blk H2.out.b2 5
        have fy6 := frozen_of_blk H2.out.b2 6
        have fy7 := frozen_of_blk H2.out.b2 7
        have fy8 := frozen_of_blk H2.out.b2 8
        have fy9 := frozen_of_blk H2.out.b2 9
        have HF : Hid (∀ W', W' = set10 WW (B + 1) (⟨0, c, t, 0, none, 0, 0, none, 0, 0, 0, 0, 0, none, 0, 0⟩ : RE) → W'.heap[B + 1]? = some (.cells (cellsE (⟨0, c, t, 0, none, 0, 0, none, 0, 0, 0, 0, 0, none, 0, 0⟩ : RE)).toArray 36 (0, 0)) ∧ Keeps no w W' ∧ Keeps (fun k => k = B + 1) WW W') := by
          rintro W' rfl
          exact H2.out.fin (⟨0, c, t, 0, none, 0, 0, none, 0, 0, 0, 0, 0, none, 0, 0⟩ : RE)
        unfold set10 at HF
        simp only at HF
        go_wp2_with fail
        refine bodyPost_ret (results_row2 rfl _ _ (B + 1) _ rfl (run_loadVar_row _ _ _ _ _ _ _ (HF.out _ rfl).1 Tryz.underlying36 rfl (ev_size _ _ _ _ _ _ _ _ _ _))) rfl ?_
        exact ⟨(⟨0, c, t, 0, none, 0, 0, none, 0, 0, 0, 0, 0, none, 0, 0⟩ : RE), by rw [HE.out]; rfl, (HF.out _ rfl).2.1, fun y e => by rw [HE.out] at e; cases e⟩
      | some ti =>
        have hii : i = ti := hi ti hr
        subst hii
        have HPV2 : Hid (ansE c t wd.data.toList (bts xs) = match mapR verR (bts (xs.drop 1)) with
          | some vs => some ⟨3, c, t, 0, [], [], q, i, vs⟩
          | _ => none) := by
          show _ = _
          rw [HPV.out, hr]
          cases mapR verR (bts (xs.drop 1)) <;> rfl
        clear hi hr HPV
        have z0 := cell_of_blk H2.out.b1 0
        have z2 := cell_of_blk H2.out.b1 2
        have z6 := cell_of_blk H2.out.b1 6
        have z7 := cell_of_blk H2.out.b1 7
        have z8 := cell_of_blk H2.out.b1 8
        have z9 := cell_of_blk H2.out.b1 9
        simp only [List.getElem?_toArray, List.getElem?_cons_succ, List.getElem?_cons_zero] at z0 z2 z6 z7 z8 z9
        have fz0 := frozen_of_blk H2.out.b1 0
        have fz2 := frozen_of_blk H2.out.b1 2
        have fz6 := frozen_of_blk H2.out.b1 6
        have fz7 := frozen_of_blk H2.out.b1 7
        have fz8 := frozen_of_blk H2.out.b1 8
        have fz9 := frozen_of_blk H2.out.b1 9
        have hb0 := (H2.out.set 0 (.int .i64 3))
        have x2 := cell_of_blk hb0.b1 2
        have x6 := cell_of_blk hb0.b1 6
        have x7 := cell_of_blk hb0.b1 7
        have x8 := cell_of_blk hb0.b1 8
        have x9 := cell_of_blk hb0.b1 9
        simp only [List.setIfInBounds_toArray, List.set_cons_zero, List.set_cons_succ, List.getElem?_toArray, List.getElem?_cons_succ, List.getElem?_cons_zero] at x2 x6 x7 x8 x9
        have u6 := frozen_of_blk hb0.b1 6
        have u7 := frozen_of_blk hb0.b1 7
        have u8 := frozen_of_blk hb0.b1 8
        have u9 := frozen_of_blk hb0.b1 9
        have H3 : Hid (E2 w (((((w2.setCell ⟨B, 0, none⟩ (.int .i64 3)).setCell ⟨B, 6, none⟩ (.int .i64 (t : Nat))).setCell ⟨B, 7, none⟩ (.int .i64 (q : Nat))).setCell ⟨B, 8, none⟩ (.int .u64 (i : Nat))).setCell ⟨B, 9, none⟩ (.slice none 0 0)) B #[.int .i64 3, .int .i64 (c : Nat), .int .i64 (t : Nat), .int .u64 0, .slice none 0 0, .slice none 0 0, .int .i64 (t : Nat), .int .i64 (q : Nat), .int .u64 (i : Nat), .slice none 0 0]) := by
          have h9 := ((((H2.out.set 0 (.int .i64 3)).set 6 (.int .i64 (t : Nat))).set 7 (.int .i64 (q : Nat))).set 8 (.int .u64 (i : Nat))).set 9 (.slice none 0 0)
          simp only [List.setIfInBounds_toArray, List.set_cons_zero, List.set_cons_succ] at h9
          exact h9
        clear hb0
        go_upto_region 9 with fail
        clear z0 z2 z6 z7 z8 z9 fz0 fz2 fz6 fz7 fz8 fz9 x2 x6 x7 x8 x9 u6 u7 u8 u9 H2
        generalize (((((w2.setCell ⟨B, 0, none⟩ (.int .i64 3)).setCell ⟨B, 6, none⟩ (.int .i64 (t : Nat))).setCell ⟨B, 7, none⟩ (.int .i64 (q : Nat))).setCell ⟨B, 8, none⟩ (.int .u64 (i : Nat))).setCell ⟨B, 9, none⟩ (.slice none 0 0)) = w3 at H3 ⊢
        by_cases hn1 : n = 1
        · subst hn1
          have HE : Hid (ansE c t wd.data.toList (bts xs) = some ⟨3, c, t, 0, [], [], q, i, []⟩) := by
            show _ = _
            have e : xs.drop 1 = [] := List.length_eq_zero_iff.1 (by rw [List.length_drop, ← HX.out.2.1])
            rw [HPV2.out, e]; rfl
          go_wp2_with fail
          go_loopw [45] (fun s45 wr => s45 = .int .i64 0 ∧ wr = w3) (fun _ _ => 0)
          case atStart => exact ⟨rfl, rfl⟩
          case round =>
            obtain ⟨rfl, rfl⟩ := hrel
            rename World => WW
            have z0 := cell_of_blk H3.out.b1 0
            have z1 := cell_of_blk H3.out.b1 1
            have z2 := cell_of_blk H3.out.b1 2
            have z3 := cell_of_blk H3.out.b1 3
            have z4 := cell_of_blk H3.out.b1 4
            have z5 := cell_of_blk H3.out.b1 5
            have z6 := cell_of_blk H3.out.b1 6
            have z7 := cell_of_blk H3.out.b1 7
            have z8 := cell_of_blk H3.out.b1 8
            have z9 := cell_of_blk H3.out.b1 9
            simp only [List.getElem?_toArray, List.getElem?_cons_succ, List.getElem?_cons_zero] at z0 z1 z2 z3 z4 z5 z6 z7 z8 z9
            have y0 := cell_of_blk H3.out.b2 0
            have y1 := cell_of_blk H3.out.b2 1
            have y2 := cell_of_blk H3.out.b2 2
            have y3 := cell_of_blk H3.out.b2 3
            have y4 := cell_of_blk H3.out.b2 4
            have y5 := cell_of_blk H3.out.b2 5
            have y6 := cell_of_blk H3.out.b2 6
            have y7 := cell_of_blk H3.out.b2 7
            have y8 := cell_of_blk H3.out.b2 8
            have y9 := cell_of_blk H3.out.b2 9
            simp only [List.getElem?_toArray, List.getElem?_cons_succ, List.getElem?_cons_zero] at y0 y1 y2 y3 y4 y5 y6 y7 y8 y9
            have fy0 := frozen_of_blk H3.out.b2 0
            have fy1 := frozen_of_blk H3.out.b2 1
            have fy2 := frozen_of_blk H3.out.b2 2
            have fy3 := frozen_of_blk H3.out.b2 3
            have fy4 := frozen_of_blk H3.out.b2 4
            have fy5 := frozen_of_blk H3.out.b2 5
            have fy6 := frozen_of_blk H3.out.b2 6
            have fy7 := frozen_of_blk H3.out.b2 7
            have fy8 := frozen_of_blk H3.out.b2 8
            have fy9 := frozen_of_blk H3.out.b2 9
            have HF : Hid (∀ W', W' = set10 WW (B + 1) (⟨3, c, t, 0, none, 0, 0, none, 0, 0, t, q, i, none, 0, 0⟩ : RE) → W'.heap[B + 1]? = some (.cells (cellsE (⟨3, c, t, 0, none, 0, 0, none, 0, 0, t, q, i, none, 0, 0⟩ : RE)).toArray 36 (0, 0)) ∧ Keeps no w W' ∧ Keeps (fun k => k = B + 1) WW W') := by
              rintro W' rfl
              exact H3.out.fin (⟨3, c, t, 0, none, 0, 0, none, 0, 0, t, q, i, none, 0, 0⟩ : RE)
            unfold set10 at HF
            simp only at HF
            go_wp2_with fail
            refine bodyPost_ret (results_row2 rfl _ _ (B + 1) _ rfl (run_loadVar_row _ _ _ _ _ _ _ (HF.out _ rfl).1 Tryz.underlying36 rfl (ev_size _ _ _ _ _ _ _ _ _ _))) rfl ?_
            refine ⟨(⟨3, c, t, 0, none, 0, 0, none, 0, 0, t, q, i, none, 0, 0⟩ : RE), by rw [HE.out]; rfl, (HF.out _ rfl).2.1, fun y e => ?_⟩
            rw [HE.out] at e
            injection e with e
            subst e
            exact ⟨rfl, rfl, rfl, rfl, ⟨[], rfl, own_nil _, rfl⟩, inO_none, ⟨[], rfl, own_nil _, rfl⟩, inO_none, rfl, rfl, rfl, ⟨[], [], rfl, own_nil _, Vl.nil _ _, rfl, inO_none⟩⟩
        · have hn2 : 1 < n := by omega
          obtain ⟨m, rfl⟩ : ∃ m, n = m + 1 := ⟨n - 1, by omega⟩
          have hm0 : (1 : Int) ≤ (m : Int) := by omega
          have HDR : Hid (∀ W, Keeps no w W → Sl TE W (some ⟨g, off + 1, none⟩) m (xs.drop 1)) := fun W hW => by
            have hW' := HX.out.2.2.1.keepsN hW
            exact ⟨hW'.row.drop okT 1 (fun _ b o e => by cases e; rfl), by rw [List.length_drop, ← HX.out.2.1]; exact Nat.le_refl _, fun h => by cases h⟩
          have HXL : Hid (m = (xs.drop 1).length ∧ (∀ x ∈ xs.drop 1, x.size ≤ 4294967000) ∧ m ≤ 4294967001) := ⟨by rw [List.length_drop, ← HX.out.2.1]; rfl, fun x hx => HX.out.2.2.2.1 x (List.mem_of_mem_drop hx), by have := HX.out.2.2.2.2; have := HX.out.2.1; omega⟩
          generalize xs.drop 1 = zs at HDR HXL HPV2
          have hmi : (((m + 1 : Nat) : Int)) = (m : Int) + 1 := by omega
          go_wp2_with fail
          have HMZ : Hid (m = zs.length) := HXL.out.1
          clear hmi hn1 hn2 hnb h0 h0' hnb0
          generalize ((m + 1 : Nat) : Int) = N13
          have hmb : (m : Int) ≤ 4294967001 := by have := HXL.out.2.2; omega
          go_loopw [45] (fun s45 wr => ∃ (j : Nat) (vo : Option Addr) (vc : Nat) (rv : List RV) (vs : List Ver), j ≤ m ∧ s45 = .int .i64 (j : Nat) ∧ Hid (E2 w wr B #[.int .i64 3, .int .i64 (c : Nat), .int .i64 (t : Nat), .int .u64 0, .slice none 0 0, .slice none 0 0, .int .i64 (t : Nat), .int .i64 (q : Nat), .int .u64 (i : Nat), .slice vo j vc] ∧ Own VE wr vo vc rv ∧ New w vo ∧ mapR verR ((bts zs).take j) = some (vs.map vrB) ∧ j = rv.length ∧ Vl w.heap.size wr rv vs)) (fun s45 _ => m - (intOf s45).toNat)
          case atStart => exact ⟨0, none, 0, [], [], by omega, rfl, H3.out, own_nil _, new_none _, rfl, rfl, ⟨rfl, fun j hj => by simp at hj, fun j hj => by simp at hj⟩⟩
          case round =>
            rename World => wr
            clear H3
            obtain ⟨j, vo, vc, rv, vs, hjm, rfl, HO⟩ := hrel
            by_cases hlt : j < m
            · have hlt' : (j : Int) < m := by omega
              have hjl : j < zs.length := by have := HMZ.out; omega
              have hjb : j < (bts zs).length := by rw [bts_len]; exact hjl
              obtain ⟨g', off', e2, d1⟩ := tx_at (HDR.out wr HO.out.1.kp) hjl
              cases e2
              have htk := mapR_take hjb HO.out.2.2.2.1
              rw [bts_getD _ _ hjl] at htk
              have hxz := HXL.out.2.1 _ (getD_mem_lt e0 hjl)
              generalize zs.getD j e0 = x at d1 htk hxz
              have HTK : Hid ((verR x.data.toList = none → mapR verR (bts zs) = none) ∧ ∀ t, verR x.data.toList = some t → mapR verR (List.take (j + 1) (bts zs)) = some (vs.map vrB ++ [t])) := htk
              have HRP := readVersion_any wr (HX.out.1.keepsN HO.out.1.kp) x hxz
              clear htk hjl hjb hxz
              go_wp2_with fail
              refine HRP.mono ?_
              rintro e w4 ⟨y1, yi, y2, ko, kn, kc, rfl, hk4, hy⟩
              have H4 : Hid (E2 w w4 B #[.int .i64 3, .int .i64 (c : Nat), .int .i64 (t : Nat), .int .u64 0, .slice none 0 0, .slice none 0 0, .int .i64 (t : Nat), .int .i64 (q : Nat), .int .u64 (i : Nat), .slice vo j vc] ∧ Own VE w4 vo vc rv ∧ Vl w.heap.size w4 rv vs) := ⟨HO.out.1.keepsN hk4, HO.out.2.1.keepsN hk4, HO.out.2.2.2.2.2.keepsN hk4⟩
              have HY : Hid (∀ p, verR x.data.toList = some p → ∃ ys : List Tx, y1.data.toList = p.key ∧ yi = p.id ∧ y2.data.toList = p.val ∧ kn = ys.length ∧ bts ys = p.keys ∧ Own TE w4 ko kc ys ∧ New wr ko) := hy
              clear hy hk4 d1 HRP
              cases hr : verR x.data.toList with
              | none =>
                have HE : Hid (ansE c t wd.data.toList (bts xs) = none) := by show _ = _; rw [HPV2.out, HTK.out.1 hr]
                have HAK : Hid (E2 w (w4.alloc (.cells #[.string y1, .int .u64 (yi : Nat), .string y2, .slice ko kn kc] 56)) B #[.int .i64 3, .int .i64 (c : Nat), .int .i64 (t : Nat), .int .u64 0, .slice none 0 0, .slice none 0 0, .int .i64 (t : Nat), .int .i64 (q : Nat), .int .u64 (i : Nat), .slice vo j vc]) := H4.out.1.keepsN ((Keeps.refl _ _).alloc _)
                clear HTK HY hr
                go_upto_region 13 with fail
                generalize w4.alloc (.cells #[.string y1, .int .u64 (yi : Nat), .string y2, .slice ko kn kc] 56) = WW at HAK ⊢
                have z0 := cell_of_blk HAK.out.b1 0
                have z1 := cell_of_blk HAK.out.b1 1
                have z2 := cell_of_blk HAK.out.b1 2
                have z3 := cell_of_blk HAK.out.b1 3
                have z4 := cell_of_blk HAK.out.b1 4
                have z5 := cell_of_blk HAK.out.b1 5
                have z6 := cell_of_blk HAK.out.b1 6
                have z7 := cell_of_blk HAK.out.b1 7
                have z8 := cell_of_blk HAK.out.b1 8
                have z9 := cell_of_blk HAK.out.b1 9
                simp only [List.getElem?_toArray, List.getElem?_cons_succ, List.getElem?_cons_zero] at z0 z1 z2 z3 z4 z5 z6 z7 z8 z9
                have y0 := cell_of_blk HAK.out.b2 0
                have y1 := cell_of_blk HAK.out.b2 1
                have y2 := cell_of_blk HAK.out.b2 2
                have y3 := cell_of_blk HAK.out.b2 3
                have y4 := cell_of_blk HAK.out.b2 4
                have y5 := cell_of_blk HAK.out.b2 5
                have y6 := cell_of_blk HAK.out.b2 6
                have y7 := cell_of_blk HAK.out.b2 7
                have y8 := cell_of_blk HAK.out.b2 8
                have y9 := cell_of_blk HAK.out.b2 9
                simp only [List.getElem?_toArray, List.getElem?_cons_succ, List.getElem?_cons_zero] at y0 y1 y2 y3 y4 y5 y6 y7 y8 y9
                have fy0 := frozen_of_blk HAK.out.b2 0
                have fy1 := frozen_of_blk HAK.out.b2 1
                have fy2 := frozen_of_blk HAK.out.b2 2
                have fy3 := frozen_of_blk HAK.out.b2 3
                have fy4 := frozen_of_blk HAK.out.b2 4
                have fy5 := frozen_of_blk HAK.out.b2 5
                have fy6 := frozen_of_blk HAK.out.b2 6
                have fy7 := frozen_of_blk HAK.out.b2 7
                have fy8 := frozen_of_blk HAK.out.b2 8
                have fy9 := frozen_of_blk HAK.out.b2 9
                have HF : Hid (∀ W', W' = set10 WW (B + 1) (⟨3, c, t, 0, none, 0, 0, none, 0, 0, t, q, i, vo, j, vc⟩ : RE) → W'.heap[B + 1]? = some (.cells (cellsE (⟨3, c, t, 0, none, 0, 0, none, 0, 0, t, q, i, vo, j, vc⟩ : RE)).toArray 36 (0, 0)) ∧ Keeps no w W' ∧ Keeps (fun k => k = B + 1) WW W') := by
                  rintro W' rfl
                  exact HAK.out.fin (⟨3, c, t, 0, none, 0, 0, none, 0, 0, t, q, i, vo, j, vc⟩ : RE)
                unfold set10 at HF
                simp only at HF
                go_wp2_with fail
                refine bodyPost_ret (results_row2 rfl _ _ (B + 1) _ rfl (run_loadVar_row _ _ _ _ _ _ _ (HF.out _ rfl).1 Tryz.underlying36 rfl (ev_size _ _ _ _ _ _ _ _ _ _))) rfl ?_
                exact ⟨(⟨3, c, t, 0, none, 0, 0, none, 0, 0, t, q, i, vo, j, vc⟩ : RE), by rw [HE.out]; rfl, (HF.out _ rfl).2.1, fun y e => by rw [HE.out] at e; cases e⟩
              | some tp =>
                obtain ⟨ys, a1, a2, a3, a4, a5, a6, a7⟩ := HY.out tp hr
                have HE : Hid (mapR verR (List.take (j + 1) (bts zs)) = some ((vs ++ [(⟨y1, yi, y2, ys⟩ : Ver)]).map vrB)) := by
                  show _ = _
                  rw [HTK.out.2 tp hr, List.map_append]
                  show some (_ ++ [tp]) = some (_ ++ [vrB ⟨y1, yi, y2, ys⟩])
                  have : vrB ⟨y1, yi, y2, ys⟩ = tp := by
                    cases tp
                    simp only at a1 a2 a3 a5
                    subst a1 a2 a3 a5
                    rfl
                  rw [this]
                have HLT : Hid (E2 w ((w4.alloc (.cells #[.string y1, .int .u64 (yi : Nat), .string y2, .slice ko kn kc] 56)).alloc (.cells #[.string y1, .int .u64 (yi : Nat), .string y2, .slice ko kn kc] 56)) B #[.int .i64 3, .int .i64 (c : Nat), .int .i64 (t : Nat), .int .u64 0, .slice none 0 0, .slice none 0 0, .int .i64 (t : Nat), .int .i64 (q : Nat), .int .u64 (i : Nat), .slice vo j vc] ∧ Own VE ((w4.alloc (.cells #[.string y1, .int .u64 (yi : Nat), .string y2, .slice ko kn kc] 56)).alloc (.cells #[.string y1, .int .u64 (yi : Nat), .string y2, .slice ko kn kc] 56)) vo vc rv ∧ Row VE ((w4.alloc (.cells #[.string y1, .int .u64 (yi : Nat), .string y2, .slice ko kn kc] 56)).alloc (.cells #[.string y1, .int .u64 (yi : Nat), .string y2, .slice ko kn kc] 56)) (some ⟨(w4.alloc (.cells #[.string y1, .int .u64 (yi : Nat), .string y2, .slice ko kn kc] 56)).heap.size, 0, none⟩) [(⟨y1, yi, y2, ko, kn, kc⟩ : RV)] ∧ Vl w.heap.size ((w4.alloc (.cells #[.string y1, .int .u64 (yi : Nat), .string y2, .slice ko kn kc] 56)).alloc (.cells #[.string y1, .int .u64 (yi : Nat), .string y2, .slice ko kn kc] 56)) rv vs ∧ kn = ys.length ∧ Own TE ((w4.alloc (.cells #[.string y1, .int .u64 (yi : Nat), .string y2, .slice ko kn kc] 56)).alloc (.cells #[.string y1, .int .u64 (yi : Nat), .string y2, .slice ko kn kc] 56)) ko kc ys ∧ ∀ k, inO ko k → w.heap.size ≤ k) := by
                  have k : Keeps no w4 ((w4.alloc (.cells #[.string y1, .int .u64 (yi : Nat), .string y2, .slice ko kn kc] 56)).alloc (.cells #[.string y1, .int .u64 (yi : Nat), .string y2, .slice ko kn kc] 56)) := ((Keeps.refl _ _).alloc _).alloc _
                  exact ⟨H4.out.1.keepsN k, H4.out.2.1.keepsN k, (lit_one (E := VE) _ (⟨y1, yi, y2, ko, kn, kc⟩ : RV) #[.string y1, .int .u64 (yi : Nat), .string y2, .slice ko kn kc] rfl).row, H4.out.2.2.keepsN k, a4, a6.keepsN k, fun k hk => Nat.le_trans HO.out.1.kp.size (a7 k hk)⟩
                have hsz4 : (w4.alloc (.cells #[.string y1, .int .u64 (yi : Nat), .string y2, .slice ko kn kc] 56)).heap.size = w4.heap.size + 1 := Array.size_push _
                rw [hsz4] at HLT
                have hb4 := (H4.out.1.keepsN ((Keeps.refl no w4).alloc (.cells #[.string y1, .int .u64 (yi : Nat), .string y2, .slice ko kn kc] 56)))
                have z9 := cell_of_blk hb4.b1 9
                simp only [List.getElem?_toArray, List.getElem?_cons_succ, List.getElem?_cons_zero] at z9
                clear hb4 HTK HY hr hsz4 a1 a2 a3 a4 a5 a6 a7
                go_wp2_with (at_builtin; refine wpList_app okV rfl _ _ rfl _ _ _ rv rfl HO.out.2.2.2.2.1 HLT.out.2.1 _ _ _ [(⟨y1, yi, y2, ko, kn, kc⟩ : RV)] rfl rfl (fun h => by cases h) HLT.out.2.2.1 (by have := HXL.out.2.2; have := HO.out.2.2.2.2.1; simp [VE]; omega) (by have := HXL.out.2.2; have := HO.out.2.2.2.2.1; simp; omega) ?_; intro o6 c6 w6 ho6 hap6; have HE6 : Hid (E2 w w6 B #[.int .i64 3, .int .i64 (c : Nat), .int .i64 (t : Nat), .int .u64 0, .slice none 0 0, .slice none 0 0, .int .i64 (t : Nat), .int .i64 (q : Nat), .int .u64 (i : Nat), .slice vo j vc]) := (HLT.out.1.ap hap6 HO.out.2.2.1 (fun k hk => by obtain ⟨cur, hc⟩ := HLT.out.2.1.tag k hk; exact ⟨cur, _, hc, by decide⟩)); have HN6 : Hid (Own VE w6 o6 c6 (rv ++ [(⟨y1, yi, y2, ko, kn, kc⟩ : RV)]) ∧ New w o6) := ⟨ho6, (hap6.new (w0 := w) HO.out.2.2.1 HLT.out.1.kp).1⟩; have HV6 : Hid (Vl w.heap.size w6 (rv ++ [(⟨y1, yi, y2, ko, kn, kc⟩ : RV)]) (vs ++ [⟨y1, yi, y2, ys⟩])) := (HLT.out.2.2.2.1.push (r := ⟨y1, yi, y2, ko, kn, kc⟩) (v := ⟨y1, yi, y2, ys⟩) rfl rfl rfl HLT.out.2.2.2.2.1 HLT.out.2.2.2.2.2.1 HLT.out.2.2.2.2.2.2).ap HLT.out.2.1 hap6; have u4 := cell_of_blk HE6.out.b1 9; have v4 := frozen_of_blk HE6.out.b1 9; simp only [List.getElem?_toArray, List.getElem?_cons_succ, List.getElem?_cons_zero] at u4; clear ho6 hap6)
                have HN7 : Hid (E2 w (w6.setCell ⟨B, 9, none⟩ (.slice o6 (j + 1) c6)) B #[.int .i64 3, .int .i64 (c : Nat), .int .i64 (t : Nat), .int .u64 0, .slice none 0 0, .slice none 0 0, .int .i64 (t : Nat), .int .i64 (q : Nat), .int .u64 (i : Nat), .slice o6 (j + 1) c6] ∧ Own VE (w6.setCell ⟨B, 9, none⟩ (.slice o6 (j + 1) c6)) o6 c6 (rv ++ [(⟨y1, yi, y2, ko, kn, kc⟩ : RV)]) ∧ Vl w.heap.size (w6.setCell ⟨B, 9, none⟩ (.slice o6 (j + 1) c6)) (rv ++ [(⟨y1, yi, y2, ko, kn, kc⟩ : RV)]) (vs ++ [⟨y1, yi, y2, ys⟩])) := by
                  refine ⟨HE6.out.set 9 (.slice o6 (j + 1) c6), HN6.out.1.keeps (keeps_one w6 B 9 _) (fun k hk e => ?_), HV6.out.keepsT (keeps_one w6 B 9 _) (fun k e => by subst e; exact ⟨_, _, _, HE6.out.b1, by decide⟩)⟩
                  obtain ⟨cur, hc⟩ := HN6.out.1.tag k hk
                  rw [e, HE6.out.b1] at hc
                  injection hc with hc
                  injection hc with _ hc _
                  exact absurd hc (by decide)
                go_roundw
                case rel => exact ⟨j + 1, o6, c6, rv ++ [⟨y1, yi, y2, ko, kn, kc⟩], vs ++ [⟨y1, yi, y2, ys⟩], by omega, by go_num, HN7.out.1, HN7.out.2.1, HN6.out.2, HE.out, by rw [List.length_append, List.length_singleton, ← HO.out.2.2.2.2.1], HN7.out.2.2⟩
                case measure => first | (simp [intOf]; done) | (simp [intOf]; omega)
            · have hlt' : ¬ (j : Int) < m := by omega
              have HE : Hid (ansE c t wd.data.toList (bts xs) = some ⟨3, c, t, 0, [], [], q, i, vs.map vrB⟩) := by
                show _ = _
                have h := HO.out.2.2.2.1
                rw [List.take_of_length_le (by rw [bts_len]; have := HMZ.out; omega)] at h
                rw [HPV2.out, h]
              have H3 : Hid (E2 w wr B #[.int .i64 3, .int .i64 (c : Nat), .int .i64 (t : Nat), .int .u64 0, .slice none 0 0, .slice none 0 0, .int .i64 (t : Nat), .int .i64 (q : Nat), .int .u64 (i : Nat), .slice vo j vc]) := HO.out.1
              have HPS : Hid (j = vs.length ∧ Own VE wr vo vc rv ∧ Vl w.heap.size wr rv vs ∧ ∀ k, inO vo k → w.heap.size ≤ k) := ⟨by rw [HO.out.2.2.2.2.1]; exact HO.out.2.2.2.2.2.len, HO.out.2.1, HO.out.2.2.2.2.2, HO.out.2.2.1⟩
              generalize hWW : wr = WW at H3 HPS ⊢
              clear HO
              have z0 := cell_of_blk H3.out.b1 0
              have z1 := cell_of_blk H3.out.b1 1
              have z2 := cell_of_blk H3.out.b1 2
              have z3 := cell_of_blk H3.out.b1 3
              have z4 := cell_of_blk H3.out.b1 4
              have z5 := cell_of_blk H3.out.b1 5
              have z6 := cell_of_blk H3.out.b1 6
              have z7 := cell_of_blk H3.out.b1 7
              have z8 := cell_of_blk H3.out.b1 8
              have z9 := cell_of_blk H3.out.b1 9
              simp only [List.getElem?_toArray, List.getElem?_cons_succ, List.getElem?_cons_zero] at z0 z1 z2 z3 z4 z5 z6 z7 z8 z9
              have y0 := cell_of_blk H3.out.b2 0
              have y1 := cell_of_blk H3.out.b2 1
              have y2 := cell_of_blk H3.out.b2 2
              have y3 := cell_of_blk H3.out.b2 3
              have y4 := cell_of_blk H3.out.b2 4
              have y5 := cell_of_blk H3.out.b2 5
              have y6 := cell_of_blk H3.out.b2 6
              have y7 := cell_of_blk H3.out.b2 7
              have y8 := cell_of_blk H3.out.b2 8
              have y9 := cell_of_blk H3.out.b2 9
              simp only [List.getElem?_toArray, List.getElem?_cons_succ, List.getElem?_cons_zero] at y0 y1 y2 y3 y4 y5 y6 y7 y8 y9
              have fy0 := frozen_of_blk H3.out.b2 0
              have fy1 := frozen_of_blk H3.out.b2 1
              have fy2 := frozen_of_blk H3.out.b2 2
              have fy3 := frozen_of_blk H3.out.b2 3
              have fy4 := frozen_of_blk H3.out.b2 4
              have fy5 := frozen_of_blk H3.out.b2 5
              have fy6 := frozen_of_blk H3.out.b2 6
              have fy7 := frozen_of_blk H3.out.b2 7
              have fy8 := frozen_of_blk H3.out.b2 8
              have fy9 := frozen_of_blk H3.out.b2 9
              have HF : Hid (∀ W', W' = set10 WW (B + 1) (⟨3, c, t, 0, none, 0, 0, none, 0, 0, t, q, i, vo, j, vc⟩ : RE) → W'.heap[B + 1]? = some (.cells (cellsE (⟨3, c, t, 0, none, 0, 0, none, 0, 0, t, q, i, vo, j, vc⟩ : RE)).toArray 36 (0, 0)) ∧ Keeps no w W' ∧ Keeps (fun k => k = B + 1) WW W') := by
                rintro W' rfl
                exact H3.out.fin (⟨3, c, t, 0, none, 0, 0, none, 0, 0, t, q, i, vo, j, vc⟩ : RE)
              unfold set10 at HF
              simp only at HF
              go_wp2_with fail
              refine bodyPost_ret (results_row2 rfl _ _ (B + 1) _ rfl (run_loadVar_row _ _ _ _ _ _ _ (HF.out _ rfl).1 Tryz.underlying36 rfl (ev_size _ _ _ _ _ _ _ _ _ _))) rfl ?_
              refine ⟨(⟨3, c, t, 0, none, 0, 0, none, 0, 0, t, q, i, vo, j, vc⟩ : RE), by rw [HE.out]; rfl, (HF.out _ rfl).2.1, fun y e => ?_⟩
              rw [HE.out] at e
              injection e with e
              subst e
              have hvl := HPS.out.2.2.1.keepsT (HF.out _ rfl).2.2 (fun k e => by subst e; exact ⟨_, _, _, H3.out.b2, by decide⟩)
              refine ⟨rfl, rfl, rfl, rfl, ⟨[], rfl, own_nil _, rfl⟩, inO_none, ⟨[], rfl, own_nil _, rfl⟩, inO_none, rfl, rfl, rfl, ⟨rv, vs, HPS.out.1, HPS.out.2.1.keeps (HF.out _ rfl).2.2 (fun k hk e => ?_), hvl, rfl, HPS.out.2.2.2⟩⟩
              obtain ⟨cur, hc⟩ := HPS.out.2.1.tag k hk
              rw [e, H3.out.b2] at hc
              injection hc with hc
              injection hc with _ hc _
              exact absurd hc (by decide)
end Go.Proofs.YtjkljljmjjnneaaGreatDoor
