/- readPair, resultOf, readVersion. -/
import Derived.Test.YtjkljljmjjnneaaGreatDoorP2
namespace Go.Proofs.YtjkljljmjjnneaaGreatDoor
open Go.RowKit Go.Sort Orl
set_option linter.unusedVariables false
set_option linter.unusedSimpArgs false

theorem splitL_len (c : UInt8) : ∀ l : List UInt8, (splitL c l).length ≤ l.length + 1 ∧ 1 ≤ (splitL c l).length ∧ ∀ p ∈ splitL c l, p.length ≤ l.length
  | [] => by simp [splitL]
  | x :: l => by
    have ih := splitL_len c l
    unfold splitL
    split
    · refine ⟨by simp; omega, by simp, fun p hp => ?_⟩
      rcases List.mem_cons.1 hp with rfl | hp
      · simp
      · have := ih.2.2 p hp; simp; omega
    · cases hs : splitL c l with
      | nil => simp
      | cons q qs =>
        rw [hs] at ih
        refine ⟨by have := ih.1; simp at this ⊢; omega, by simp, fun p hp => ?_⟩
        rcases List.mem_cons.1 hp with rfl | hp
        · have := ih.2.2 q (by simp); simp; omega
        · have := ih.2.2 p (by simp [hp]); simp; omega
theorem bts_len (l : List Tx) : (bts l).length = l.length := by unfold bts; rw [List.length_map]
theorem bts_size {xs : List Tx} {c : UInt8} {l : List UInt8} (h : bts xs = splitL c l) : (∀ x ∈ xs, x.size ≤ l.length) ∧ xs.length ≤ l.length + 1 ∧ 1 ≤ xs.length := by
  have hl := splitL_len c l
  rw [← h, bts_len] at hl
  refine ⟨fun x hx => ?_, hl.1, hl.2.1⟩
  have h1 := hl.2.2 x.data.toList (List.mem_map.2 ⟨x, hx, rfl⟩)
  rw [data_len] at h1
  exact h1
/-! ### pairs -/
def pairR (l : List UInt8) : Option (List UInt8 × List UInt8) := match textsR (splitL 61 l) with
  | some [a, b] => some (a, b)
  | _ => none
theorem pair_set {w W : World} {B : Nat} {x0 y0 : Value} (hb : W.heap[B]? = some (.cells #[x0, y0] 49 (0, 0))) (hB : w.heap.size ≤ B) (k : Keeps no w W) (a b : Value) :
    ((W.setCell ⟨B, 0, none⟩ a).setCell ⟨B, 1, none⟩ b).heap[B]? = some (.cells #[a, b] 49 (0, 0)) ∧ Keeps no w ((W.setCell ⟨B, 0, none⟩ a).setCell ⟨B, 1, none⟩ b) :=
  ⟨blk_set (blk_set hb 0 a) 1 b, (k.setCell (p := ⟨B, 0, none⟩) (.inr hB) a).setCell (p := ⟨B, 1, none⟩) (.inr hB) b⟩
theorem pair_size (a b : Value) : (Tryz.prog.info? 49).map (·.size) = some (#[a, b] : Array Value).size := by
  show _ = some 2
  kernel_rfl
set_option maxRecDepth 10000 in
set_option maxHeartbeats 2000000 in
theorem readPair_any (w : World) (s : ByteArray) (hs : s.size ≤ 4294967000) :
    Calls Tryz.prog 67 #[.string s] w fun e w' => ∃ x y : Tx, e = .returned (.tuple #[.agg #[.string x, .string y], .bool (pairR s.data.toList).isSome]) ∧ (∀ p, pairR s.data.toList = some p → x.data.toList = p.1 ∧ y.data.toList = p.2) ∧ Keeps no w w' := by
  obtain ⟨B, hB⟩ : ∃ B, B = w.heap.size := ⟨_, rfl⟩
  have HB : Hid (w.heap.size = B) := hB.symm
  have HA : Hid (∀ W, W = w.alloc (.cells #[.string ⟨#[]⟩, .string ⟨#[]⟩] 49) → W.heap[B]? = some (.cells #[.string ⟨#[]⟩, .string ⟨#[]⟩] 49 (0, 0)) ∧ Keeps no w W) := by
    rintro W rfl
    exact ⟨by rw [hB]; exact blk_new w _, (Keeps.refl _ _).alloc _⟩
  have HS : Hid (∀ W, Calls Tryz.prog 44 #[.string s, .string ⟨#[61]⟩] W fun e w' => ∃ o n xs, e = .returned (.slice o n n) ∧ n = xs.length ∧ Own TE w' o n xs ∧ New W o ∧ Keeps no W w' ∧ xs.map (fun x => x.data.toList) = splitL 61 s.data.toList) := fun W => split_any W s 61 (by omega)
  have HZ : Hid (s.data.toList.length ≤ 4294967000) := by show _ ≤ _; rw [data_len]; exact hs
  clear hs
  go_enter Tryz.func67, Tryz.ntmps67
  go_upto_region 1 with fail
  have h1 := HA.out _ rfl
  rw [← hB]
  clear hB HA
  generalize w.alloc (.cells #[.string ⟨#[]⟩, .string ⟨#[]⟩] 49) = w1 at h1 ⊢
  have H1 : Hid (w1.heap[B]? = some (.cells #[.string ⟨#[]⟩, .string ⟨#[]⟩] 49 (0, 0)) ∧ Keeps no w w1) := h1
  clear h1
  go_wp2_with fail
  refine (HS.out _).mono ?_
  rintro e w2 ⟨o, n, xs, rfl, hn, ho, -, hk2, hx⟩
  have hbz := bts_size (xs := xs) hx
  have HR : Hid (Calls Tryz.prog 68 #[.slice o n n] w2 (TxTo w2 (textsR (splitL 61 s.data.toList)))) := by
    have h := readTexts_any w2 o n n xs hn ho.sl (fun x hx => by have := hbz.1 x hx; have := HZ.out; omega) (by have := hbz.2.1; have := HZ.out; omega)
    rwa [show bts xs = _ from hx] at h
  have H2 : Hid (w2.heap[B]? = some (.cells #[.string ⟨#[]⟩, .string ⟨#[]⟩] 49 (0, 0)) ∧ Keeps no w w2) := ⟨hk2.at H1.out.1 id, H1.out.2.trans hk2⟩
  clear hn ho hk2 hx hbz
  go_wp2_with fail
  refine HR.out.mono ?_
  rintro e w3 ⟨o3, n3, c3, ys, rfl, hn3, ho3, -, hk3, hy, -⟩
  have H3 : Hid (w3.heap[B]? = some (.cells #[.string ⟨#[]⟩, .string ⟨#[]⟩] 49 (0, 0)) ∧ Keeps no w w3) := ⟨hk3.at H2.out.1 id, H2.out.2.trans hk3⟩
  have c0 := cell_of_blk H3.out.1 0
  have c1 := cell_of_blk H3.out.1 1
  have f0 := frozen_of_blk H3.out.1 0
  have f1 := frozen_of_blk H3.out.1 1
  simp only [List.getElem?_toArray, List.getElem?_cons_succ, List.getElem?_cons_zero] at c0 c1
  have HPS : Hid (∀ a b, ((w3.setCell ⟨B, 0, none⟩ a).setCell ⟨B, 1, none⟩ b).heap[B]? = some (.cells #[a, b] 49 (0, 0)) ∧ Keeps no w ((w3.setCell ⟨B, 0, none⟩ a).setCell ⟨B, 1, none⟩ b)) := fun a b => pair_set H3.out.1 (Nat.le_of_eq HB.out) H3.out.2 a b
  have HY : Hid (n3 = ys.length ∧ Sl TE w3 o3 c3 ys ∧ ∀ ts, textsR (splitL 61 s.data.toList) = some ts → bts ys = ts) := ⟨hn3, ho3.sl, hy⟩
  have hnb : (n3 : Int) ≤ 9223372036854775807 := by
    have := ho3.shape
    rcases this with ⟨_, _, e⟩ | ⟨g, cur, _, _, h1, h2, _⟩
    · subst e; rw [hn3]; simp
    · unfold maxLen at *; omega
  clear hk3 hy hn3 ho3
  cases hr : textsR (splitL 61 s.data.toList) with
  | none =>
    have HE : Hid (pairR s.data.toList = none) := by show _ = _; unfold pairR; rw [hr]
    clear hr
    go_wp2_with fail
    refine bodyPost_ret (results_row2 rfl _ _ B _ rfl (run_loadVar_row _ _ _ _ _ _ _ (HPS.out _ _).1 Tryz.underlying49 rfl (pair_size _ _))) rfl ?_
    exact ⟨⟨#[]⟩, ⟨#[]⟩, by rw [HE.out]; rfl, (fun p e => by rw [HE.out] at e; cases e), (HPS.out _ _).2⟩
  | some ts =>
    by_cases h2 : n3 = 2
    · subst h2
      have e := HY.out.2.2 ts hr
      obtain ⟨y1, y2, rfl⟩ : ∃ y1 y2, ys = [y1, y2] := by
        match ys, HY.out.1 with
        | [a, b], _ => exact ⟨a, b, rfl⟩
        | [], h => simp at h
        | [_], h => simp at h
        | _ :: _ :: _ :: _, h => simp at h
      have HE : Hid (pairR s.data.toList = some (y1.data.toList, y2.data.toList)) := by
        show _ = _
        unfold pairR
        rw [hr, ← e]
        rfl
      obtain ⟨g, off, rfl, d0⟩ := HY.out.2.1.at (j := 0) (by simp)
      obtain ⟨g', off', e2, d1⟩ := HY.out.2.1.at (j := 1) (by simp)
      cases e2
      simp only [Nat.add_zero, List.getD_cons_zero, List.getD_cons_succ] at d0 d1
      clear hr e
      go_upto_region 4 with fail
      go_region
      go_wp2_with fail
      refine bodyPost_ret (results_row2 rfl _ _ B _ rfl (run_loadVar_row _ _ _ _ _ _ _ (show _ from (HPS.out _ _).1) Tryz.underlying49 rfl (pair_size _ _))) rfl ?_
      exact ⟨y1, y2, by rw [HE.out]; rfl, (fun p e => by rw [HE.out] at e; injection e with e; rw [← e]; exact ⟨rfl, rfl⟩), (HPS.out _ _).2.drew⟩
    · have h2' : ¬ (n3 : Int) = 2 := by omega
      have HE : Hid (pairR s.data.toList = none) := by
        show _ = _
        unfold pairR
        rw [hr]
        have e := HY.out.2.2 ts hr
        match ts, e with
        | [a, b], e => exact absurd (by rw [HY.out.1, ← bts_len, e]; rfl) h2
        | [], _ => rfl
        | [_], _ => rfl
        | _ :: _ :: _ :: _, _ => rfl
      clear hr
      go_wp2_with fail
      refine bodyPost_ret (results_row2 rfl _ _ B _ rfl (run_loadVar_row _ _ _ _ _ _ _ (HPS.out _ _).1 Tryz.underlying49 rfl (pair_size _ _))) rfl ?_
      exact ⟨⟨#[]⟩, ⟨#[]⟩, by rw [HE.out]; rfl, (fun p e => by rw [HE.out] at e; cases e), (HPS.out _ _).2⟩
/-! ### results -/
/-- the result of a word; 0: none -/
def resR (l : List UInt8) : Nat := if l = [111, 107] then 1 else if l = [115, 116, 97, 108, 101] then 2 else if l = [97, 98, 111, 114, 116, 101, 100] then 3 else if l = [117, 110, 107, 110, 111, 119, 110] then 4 else if l = [105, 110, 118, 97, 108, 105, 100] then 5 else if l = [101, 120, 104, 97, 117, 115, 116, 101, 100] then 6 else 0
theorem resR_none {l : List UInt8} (h : ∀ j, j < 6 → wordL (j + 1) ≠ l) : resR l = 0 := by
  unfold resR
  rw [if_neg (fun e => h 0 (by decide) e.symm), if_neg (fun e => h 1 (by decide) e.symm), if_neg (fun e => h 2 (by decide) e.symm), if_neg (fun e => h 3 (by decide) e.symm), if_neg (fun e => h 4 (by decide) e.symm), if_neg (fun e => h 5 (by decide) e.symm)]
theorem resR_le (l : List UInt8) : resR l ≤ 6 := by
  unfold resR
  repeat' split
  all_goals decide
theorem word_ix0 (W : World) : (Instr.index 110 (.agg #[.string ⟨#[111, 107]⟩, .string ⟨#[115, 116, 97, 108, 101]⟩, .string ⟨#[97, 98, 111, 114, 116, 101, 100]⟩, .string ⟨#[117, 110, 107, 110, 111, 119, 110]⟩, .string ⟨#[105, 110, 118, 97, 108, 105, 100]⟩, .string ⟨#[101, 120, 104, 97, 117, 115, 116, 101, 100]⟩]) (.int .i64 0)).run Tryz.prog W = .ok (.string ⟨#[111, 107]⟩) W := by kernel_rfl
theorem word_ix1 (W : World) : (Instr.index 110 (.agg #[.string ⟨#[111, 107]⟩, .string ⟨#[115, 116, 97, 108, 101]⟩, .string ⟨#[97, 98, 111, 114, 116, 101, 100]⟩, .string ⟨#[117, 110, 107, 110, 111, 119, 110]⟩, .string ⟨#[105, 110, 118, 97, 108, 105, 100]⟩, .string ⟨#[101, 120, 104, 97, 117, 115, 116, 101, 100]⟩]) (.int .i64 1)).run Tryz.prog W = .ok (.string ⟨#[115, 116, 97, 108, 101]⟩) W := by kernel_rfl
theorem word_ix2 (W : World) : (Instr.index 110 (.agg #[.string ⟨#[111, 107]⟩, .string ⟨#[115, 116, 97, 108, 101]⟩, .string ⟨#[97, 98, 111, 114, 116, 101, 100]⟩, .string ⟨#[117, 110, 107, 110, 111, 119, 110]⟩, .string ⟨#[105, 110, 118, 97, 108, 105, 100]⟩, .string ⟨#[101, 120, 104, 97, 117, 115, 116, 101, 100]⟩]) (.int .i64 2)).run Tryz.prog W = .ok (.string ⟨#[97, 98, 111, 114, 116, 101, 100]⟩) W := by kernel_rfl
theorem word_ix3 (W : World) : (Instr.index 110 (.agg #[.string ⟨#[111, 107]⟩, .string ⟨#[115, 116, 97, 108, 101]⟩, .string ⟨#[97, 98, 111, 114, 116, 101, 100]⟩, .string ⟨#[117, 110, 107, 110, 111, 119, 110]⟩, .string ⟨#[105, 110, 118, 97, 108, 105, 100]⟩, .string ⟨#[101, 120, 104, 97, 117, 115, 116, 101, 100]⟩]) (.int .i64 3)).run Tryz.prog W = .ok (.string ⟨#[117, 110, 107, 110, 111, 119, 110]⟩) W := by kernel_rfl
theorem word_ix4 (W : World) : (Instr.index 110 (.agg #[.string ⟨#[111, 107]⟩, .string ⟨#[115, 116, 97, 108, 101]⟩, .string ⟨#[97, 98, 111, 114, 116, 101, 100]⟩, .string ⟨#[117, 110, 107, 110, 111, 119, 110]⟩, .string ⟨#[105, 110, 118, 97, 108, 105, 100]⟩, .string ⟨#[101, 120, 104, 97, 117, 115, 116, 101, 100]⟩]) (.int .i64 4)).run Tryz.prog W = .ok (.string ⟨#[105, 110, 118, 97, 108, 105, 100]⟩) W := by kernel_rfl
theorem word_ix5 (W : World) : (Instr.index 110 (.agg #[.string ⟨#[111, 107]⟩, .string ⟨#[115, 116, 97, 108, 101]⟩, .string ⟨#[97, 98, 111, 114, 116, 101, 100]⟩, .string ⟨#[117, 110, 107, 110, 111, 119, 110]⟩, .string ⟨#[105, 110, 118, 97, 108, 105, 100]⟩, .string ⟨#[101, 120, 104, 97, 117, 115, 116, 101, 100]⟩]) (.int .i64 5)).run Tryz.prog W = .ok (.string ⟨#[101, 120, 104, 97, 117, 115, 116, 101, 100]⟩) W := by kernel_rfl
set_option maxRecDepth 10000 in
set_option maxHeartbeats 2000000 in
theorem resultOf_any (w : World) (hv : WordIn w) (s : ByteArray) :
    Calls Tryz.prog 69 #[.string s] w fun e w' => e = .returned (.int .i64 (resR s.data.toList : Nat)) ∧ w' = w := by
  have z0 := hv.at 1 (by decide) (by decide)
  have z1 := hv.at 2 (by decide) (by decide)
  have z2 := hv.at 3 (by decide) (by decide)
  have z3 := hv.at 4 (by decide) (by decide)
  have z4 := hv.at 5 (by decide) (by decide)
  have z5 := hv.at 6 (by decide) (by decide)
  simp only [wordL, Nat.add_sub_cancel] at z0 z1 z2 z3 z4 z5
  clear hv
  go_enter Tryz.func69, Tryz.ntmps69
  go_wp2_with fail
  go_loopw [6] (fun s6 wr => ∃ i : Int, (i = 0 ∨ i = 1 ∨ i = 2 ∨ i = 3 ∨ i = 4 ∨ i = 5 ∨ i = 6) ∧ s6 = .int .i64 i ∧ wr = w ∧ Hid (∀ j : Nat, (j : Int) < i → wordL (j + 1) ≠ s.data.toList)) (fun s6 _ => (6 - intOf s6).toNat)
  case atStart => exact ⟨0, .inl rfl, rfl, rfl, fun j hj => by omega⟩
  case round =>
    obtain ⟨i, hi, rfl, rfl, HF⟩ := hrel
    rcases hi with rfl | rfl | rfl | rfl | rfl | rfl | rfl
    · by_cases hq : s.data.toList = [111, 107]
      · have ht : (([111, 107] : List UInt8) == s.toList) = true := by rw [Lib.toList_data, hq]; rfl
        have HE : Hid (resR s.data.toList = 1) := by show _ = _; rw [hq]; decide
        clear hq
        have hix := fun W => word_ix0 W
        go_wp2_with fail
        go_ret
        exact ⟨by rw [HE.out]; rfl, rfl⟩
      · have ht : (([111, 107] : List UInt8) == s.toList) = false := by rw [Lib.toList_data, beq_eq_false_iff_ne]; exact fun e => hq e.symm
        have HN : Hid (∀ j : Nat, (j : Int) < 1 → wordL (j + 1) ≠ s.data.toList) := fun j hj => by
          by_cases e : j = 0
          · subst e; exact fun e => hq e.symm
          · exact HF.out j (by omega)
        clear hq
        have hix := fun W => word_ix0 W
        go_wp2_with fail
        go_roundw
        case rel => exact ⟨1, by decide, by go_num, trivial, HN⟩
        case measure => first | (simp [intOf]; done) | (simp [intOf]; omega)
    · by_cases hq : s.data.toList = [115, 116, 97, 108, 101]
      · have ht : (([115, 116, 97, 108, 101] : List UInt8) == s.toList) = true := by rw [Lib.toList_data, hq]; rfl
        have HE : Hid (resR s.data.toList = 2) := by show _ = _; rw [hq]; decide
        clear hq
        have hix := fun W => word_ix1 W
        go_wp2_with fail
        go_ret
        exact ⟨by rw [HE.out]; rfl, rfl⟩
      · have ht : (([115, 116, 97, 108, 101] : List UInt8) == s.toList) = false := by rw [Lib.toList_data, beq_eq_false_iff_ne]; exact fun e => hq e.symm
        have HN : Hid (∀ j : Nat, (j : Int) < 2 → wordL (j + 1) ≠ s.data.toList) := fun j hj => by
          by_cases e : j = 1
          · subst e; exact fun e => hq e.symm
          · exact HF.out j (by omega)
        clear hq
        have hix := fun W => word_ix1 W
        go_wp2_with fail
        go_roundw
        case rel => exact ⟨2, by decide, by go_num, trivial, HN⟩
        case measure => first | (simp [intOf]; done) | (simp [intOf]; omega)
    · by_cases hq : s.data.toList = [97, 98, 111, 114, 116, 101, 100]
      · have ht : (([97, 98, 111, 114, 116, 101, 100] : List UInt8) == s.toList) = true := by rw [Lib.toList_data, hq]; rfl
        have HE : Hid (resR s.data.toList = 3) := by show _ = _; rw [hq]; decide
        clear hq
        have hix := fun W => word_ix2 W
        go_wp2_with fail
        go_ret
        exact ⟨by rw [HE.out]; rfl, rfl⟩
      · have ht : (([97, 98, 111, 114, 116, 101, 100] : List UInt8) == s.toList) = false := by rw [Lib.toList_data, beq_eq_false_iff_ne]; exact fun e => hq e.symm
        have HN : Hid (∀ j : Nat, (j : Int) < 3 → wordL (j + 1) ≠ s.data.toList) := fun j hj => by
          by_cases e : j = 2
          · subst e; exact fun e => hq e.symm
          · exact HF.out j (by omega)
        clear hq
        have hix := fun W => word_ix2 W
        go_wp2_with fail
        go_roundw
        case rel => exact ⟨3, by decide, by go_num, trivial, HN⟩
        case measure => first | (simp [intOf]; done) | (simp [intOf]; omega)
    · by_cases hq : s.data.toList = [117, 110, 107, 110, 111, 119, 110]
      · have ht : (([117, 110, 107, 110, 111, 119, 110] : List UInt8) == s.toList) = true := by rw [Lib.toList_data, hq]; rfl
        have HE : Hid (resR s.data.toList = 4) := by show _ = _; rw [hq]; decide
        clear hq
        have hix := fun W => word_ix3 W
        go_wp2_with fail
        go_ret
        exact ⟨by rw [HE.out]; rfl, rfl⟩
      · have ht : (([117, 110, 107, 110, 111, 119, 110] : List UInt8) == s.toList) = false := by rw [Lib.toList_data, beq_eq_false_iff_ne]; exact fun e => hq e.symm
        have HN : Hid (∀ j : Nat, (j : Int) < 4 → wordL (j + 1) ≠ s.data.toList) := fun j hj => by
          by_cases e : j = 3
          · subst e; exact fun e => hq e.symm
          · exact HF.out j (by omega)
        clear hq
        have hix := fun W => word_ix3 W
        go_wp2_with fail
        go_roundw
        case rel => exact ⟨4, by decide, by go_num, trivial, HN⟩
        case measure => first | (simp [intOf]; done) | (simp [intOf]; omega)
    · by_cases hq : s.data.toList = [105, 110, 118, 97, 108, 105, 100]
      · have ht : (([105, 110, 118, 97, 108, 105, 100] : List UInt8) == s.toList) = true := by rw [Lib.toList_data, hq]; rfl
        have HE : Hid (resR s.data.toList = 5) := by show _ = _; rw [hq]; decide
        clear hq
        have hix := fun W => word_ix4 W
        go_wp2_with fail
        go_ret
        exact ⟨by rw [HE.out]; rfl, rfl⟩
      · have ht : (([105, 110, 118, 97, 108, 105, 100] : List UInt8) == s.toList) = false := by rw [Lib.toList_data, beq_eq_false_iff_ne]; exact fun e => hq e.symm
        have HN : Hid (∀ j : Nat, (j : Int) < 5 → wordL (j + 1) ≠ s.data.toList) := fun j hj => by
          by_cases e : j = 4
          · subst e; exact fun e => hq e.symm
          · exact HF.out j (by omega)
        clear hq
        have hix := fun W => word_ix4 W
        go_wp2_with fail
        go_roundw
        case rel => exact ⟨5, by decide, by go_num, trivial, HN⟩
        case measure => first | (simp [intOf]; done) | (simp [intOf]; omega)
    · by_cases hq : s.data.toList = [101, 120, 104, 97, 117, 115, 116, 101, 100]
      · have ht : (([101, 120, 104, 97, 117, 115, 116, 101, 100] : List UInt8) == s.toList) = true := by rw [Lib.toList_data, hq]; rfl
        have HE : Hid (resR s.data.toList = 6) := by show _ = _; rw [hq]; decide
        clear hq
        have hix := fun W => word_ix5 W
        go_wp2_with fail
        go_ret
        exact ⟨by rw [HE.out]; rfl, rfl⟩
      · have ht : (([101, 120, 104, 97, 117, 115, 116, 101, 100] : List UInt8) == s.toList) = false := by rw [Lib.toList_data, beq_eq_false_iff_ne]; exact fun e => hq e.symm
        have HN : Hid (∀ j : Nat, (j : Int) < 6 → wordL (j + 1) ≠ s.data.toList) := fun j hj => by
          by_cases e : j = 5
          · subst e; exact fun e => hq e.symm
          · exact HF.out j (by omega)
        clear hq
        have hix := fun W => word_ix5 W
        go_wp2_with fail
        go_roundw
        case rel => exact ⟨6, by decide, by go_num, trivial, HN⟩
        case measure => first | (simp [intOf]; done) | (simp [intOf]; omega)
    · have HE : Hid (resR s.data.toList = 0) := resR_none (fun j hj => HF.out j (by omega))
      go_wp2_with fail
      go_ret
      exact ⟨by rw [HE.out]; rfl, rfl⟩
end Go.Proofs.YtjkljljmjjnneaaGreatDoor
