/- The program's lay; slices.Grow; headOf. -/
import Derived.Test.YtgamhblkgojapaaGreatDoorC2
import Derived.Test.YtgamhblkgojapaaGreatDoorCs
import Derived.Lib.AppendZerosOnto
namespace Go.Proofs.YtgamhblkgojapaaGreatDoor
open Go.RowKit Go.Sort Orl Pk
set_option linter.unusedVariables false
set_option linter.unusedSimpArgs false

/-- the greatest payload -/
def Lm : Nat := 1048576
theorem hLm : Lm ≤ 140737488355328 := by unfold Lm; omega
/-- what lay leaves: the payload, piece by piece -/
def LaidTo (w : World) (a : Nat) (r : Rec) (w' : World) : Prop := ∃ l : List (List Nat), l.flatten = body r ∧ WStep 132 w a none Lm (lays Lm ([], 0) l) w'

set_option maxRecDepth 10000 in
set_option maxHeartbeats 2000000 in
theorem lay_any (w0 w : World) (a : Nat) (c0 : Nat) (hW : IsW 132 w a none c0 Lm [] 0) (k0 : Keeps no w0 w) (ha : w0.heap.size ≤ a) (k : Int) (i : Nat) (op : Option Addr) (np cp : Nat) (ok : Option Addr) (nk ck : Nat) (r : Rec)
    (h : IsC w0 ⟨k, i, op, np, cp, ok, nk, ck⟩ r) (hm : may r = true) :
    Calls Tryz.prog 63 #[.pointer (some ⟨a, 0, none⟩), .agg #[.int .i64 k, .int .u64 (i : Nat), .slice op np cp, .slice ok nk ck]] w
      fun e w' => e = .returned (.tuple #[]) ∧ LaidTo w a r w' := by
  have H0 : Hid (IsC w0 ⟨k, i, op, np, cp, ok, nk, ck⟩ r) := h
  have H : Hid (IsC w ⟨k, i, op, np, cp, ok, nk, ck⟩ r) := h.keepsN k0
  have hi : i < 18446744073709551616 := by have := h.fit.id; rw [← h.i] at this; exact this
  have HK : Hid (k = r.kind ∧ i = r.id) := ⟨h.k, h.i⟩
  have hp := (may_parts hm).2
  have HAP : Hid (∀ (ol : Option Addr), (∀ j, inO ol j → j < w0.heap.size) → ∀ j, j < w.heap.size → inO ol j → ¬ footW a none j) := by
    intro ol hlt j _ hj hf
    have h1 := hlt j hj
    rcases hf with rfl | ⟨x, e, _⟩
    · omega
    · cases e
  have HST : Hid (WStep 132 w a none Lm ([], 0) (w.alloc (.cells #[.int .i64 k, .int .u64 (i : Nat), .slice op np cp, .slice ok nk ck] 41))) := (WStep.start hW).more ((Keeps.refl no _).alloc _)
  clear h
  rcases hp with ⟨hk, hK, hP⟩ | ⟨hk, hps, hks⟩
  · rw [← HK.out.1] at hk
    subst hk
    obtain ⟨q1, q2, q3, _⟩ := mayK_all hK
    obtain ⟨p1, p2, p3⟩ := mayP_all hK hP
    have hnp : (np : Int) ≤ 1024 := by have e := H0.out.np; simp only at e; omega
    have hnp1 : np ≤ 1024 := by omega
    have hconv : ((np : Int) % 4294967296) = (np : Int) := by omega
    have HTX : Hid (Txs r.keys ∧ r.keys ≠ []) := ⟨⟨q1, q3⟩, fun e => by rw [e] at q2; simp at q2⟩
    have HPX : Hid ((∀ p ∈ r.pairs, p.1.size ≤ 65535 ∧ p.2.size ≤ 65535) ∧ r.pairs ≠ []) := ⟨p3, fun e => by rw [e] at p2; simp at p2⟩
    have HNP : Hid (np = r.pairs.length) := H0.out.np
    have HPS : Hid (∀ j, j < w.heap.size → inO op j → ¬ footW a none j) := HAP.out op (H0.out.prs.lt okP HPX.out.2)
    have HKS : Hid (∀ j, j < w.heap.size → inO ok j → ¬ footW a none j) := HAP.out ok (H0.out.kys.lt okT HTX.out.2)
    clear hK hP q1 q2 q3 p1 p2 p3 HAP hm hW k0 ha
    go_enter Tryz.func63, Tryz.ntmps63
    go_wp2_with fail
    refine (wsU8 hLm HST.out 1 (by omega)).mono ?_
    rintro e w1 ⟨rfl, h1, hst1⟩
    have hb1 := hst1 _ _ _ _ (blk_new w _) (by decide) (by decide)
    obtain ⟨x0, x1, x2, x3⟩ := cells4 hb1
    go_wp2_with fail
    refine (wsU64 hLm h1 i hi).mono ?_
    rintro e w2 ⟨rfl, h2, hst2⟩
    have hb2 := hst2 _ _ _ _ hb1 (by decide) (by decide)
    clear x0 x1 x2 x3 h1 hst1 hb1
    obtain ⟨x0, x1, x2, x3⟩ := cells4 hb2
    go_wp2_with fail
    try rw [hconv]
    refine (wsU32 hLm h2 np (by omega)).mono ?_
    rintro e w3 ⟨rfl, h3, hst3⟩
    have hb3 := hst3 _ _ _ _ hb2 (by decide) (by decide)
    clear x0 x1 x2 x3 h2 hst2 hb2
    obtain ⟨x0, x1, x2, x3⟩ := cells4 hb3
    have H3 : Hid (WStep 132 w a none Lm (lays Lm ([], 0) [num 1 1, num 8 i, num 4 np]) w3) := h3
    clear h3
    go_wp2_with fail
    go_loopw [27] (fun i' wr => ∃ q : Nat, q ≤ np ∧ i' = .int .i64 q ∧ Hid (WStep 132 w a none Lm (lays Lm ([], 0) ([num 1 1, num 8 i, num 4 np] ++ chP (r.pairs.take q))) wr) ∧ Hid (Stay w3 wr)) (fun i' _ => np - (intOf i').toNat)
    case atStart => exact ⟨0, by omega, rfl, H3.out, fun _ _ _ _ h _ _ => h⟩
    case round =>
      rename World => wq
      obtain ⟨q, hq, rfl, HW, HS3⟩ := hrel
      by_cases hqn : q < np
      · have hks : q < r.pairs.length := by have := HNP.out; omega
        have hlt := H.out.prs.lt okP HPX.out.2
        obtain ⟨b, off, e, c1, c2⟩ := (H.out.prs.keeps HW.out.keeps (fun j hj => HPS.out j (hlt j hj) hj)).atP hks
        simp only at e
        subst e
        have hsz := HPX.out.1 _ (getD_mem_lt p0 hks)
        have HSN : Hid (chP (r.pairs.take (q + 1)) = chP (r.pairs.take q) ++ [txt (nats (r.pairs.getD q p0).1)] ++ [txt (nats (r.pairs.getD q p0).2)]) := chP_snoc r.pairs q hks
        generalize r.pairs.getD q p0 = s at c1 c2 hsz HSN
        obtain ⟨s1, s2⟩ := s
        simp only at c1 c2 hsz HSN
        go_wp2_with fail
        refine (wsText hLm (HW.out.more ((Keeps.refl no _).alloc _)) s1 hsz.1).mono ?_
        rintro e w4 ⟨rfl, h4, hst4⟩
        have hb : w4.heap[wq.heap.size]? = some (.cells #[.string s1, .string s2] 102 (0, 0)) := hst4 _ _ _ _ (blk_new wq _) (by decide) (by decide)
        have d1 : w4.cell? ⟨wq.heap.size, 1, none⟩ = some (.string s2) := cell_of_blk hb 1
        go_wp2_with fail
        refine (wsText hLm h4 s2 hsz.2).mono ?_
        rintro e w5 ⟨rfl, h5, hst5⟩
        go_wp2_with fail
        go_roundw
        case rel =>
          refine ⟨q + 1, by omega, by go_num, ?_, ((HS3.out.trans (Stay.of_keeps ((Keeps.refl no _).alloc _))).trans hst4).trans hst5⟩
          show WStep _ _ _ _ _ _ _
          rw [HSN.out, ← List.append_assoc, ← List.append_assoc, lays_snoc, lays_snoc]
          exact h5
        case measure => simp [intOf]; omega
      · have hqe : q = np := by omega
        have hb4 := HS3.out _ _ _ _ hb3 (by decide) (by decide)
        have y3 : wq.cell? ⟨w.heap.size, 3, none⟩ = some (.slice ok nk ck) := cell_of_blk hb4 3
        go_wp2_with fail
        refine (wsTexts hLm HW.out ok nk ck r.keys H.out.nk HTX.out.1 HTX.out.2 H.out.kys HKS.out).mono ?_
        rintro e w5 ⟨rfl, h5, hst5⟩
        go_wp2_with fail
        go_end0
        refine ⟨rfl, [num 1 1, num 8 i, num 4 np] ++ chP r.pairs ++ [txts (natss r.keys)], ?_, ?_⟩
        · unfold body layF
          rw [← HK.out.1, if_pos rfl, ← HK.out.2, ← HNP.out, List.flatten_append, List.flatten_append, chP_flat]
          simp
        · rw [lays_snoc]
          rw [hqe, HNP.out, List.take_length] at h5
          rw [HNP.out]
          exact h5
  · rw [← HK.out.1] at hk
    subst hk
    clear HAP hm hW k0 ha
    go_enter Tryz.func63, Tryz.ntmps63
    go_wp2_with fail
    refine (wsU8 hLm HST.out 2 (by omega)).mono ?_
    rintro e w1 ⟨rfl, h1, hst1⟩
    have hb1 := hst1 _ _ _ _ (blk_new w _) (by decide) (by decide)
    obtain ⟨x0, x1, x2, x3⟩ := cells4 hb1
    go_wp2_with fail
    refine (wsU64 hLm h1 i hi).mono ?_
    rintro e w2 ⟨rfl, h2, hst2⟩
    have hb2 := hst2 _ _ _ _ hb1 (by decide) (by decide)
    clear x0 x1 x2 x3 h1 hst1 hb1
    obtain ⟨x0, x1, x2, x3⟩ := cells4 hb2
    go_wp2_with fail
    refine bodyPost_ret (results_none rfl _ _ _) rfl ?_
    refine ⟨rfl, [num 1 2, num 8 i], ?_, h2⟩
    unfold body layF
    rw [← HK.out.1, if_neg (by decide), ← HK.out.2]
    simp

/-! ### slices.Grow of bytes -/
set_option maxRecDepth 10000 in
theorem grow_any (w : World) (g : Nat) (n c : Nat) (bs : List Nat) (m : Nat) (hn : n = bs.length) (hO : Owns w (some ⟨g, 0, none⟩) c bs) (hm : (m : Int) ≤ 1048576) (hnb : (n : Int) ≤ 8) :
    Calls Tryz.prog 86 #[.slice (some ⟨g, 0, none⟩) n c, .int .i64 (m : Nat)] w fun e w' => ∃ o' c', e = .returned (.slice o' n c') ∧ Owns w' o' c' bs ∧ Fresh w (some ⟨g, 0, none⟩) o' ∧ Keeps no w w' := by
  obtain ⟨i0, hi, hz0, hz1, hz2⟩ := info_parts info5
  rcases hO.shape with ⟨e, _⟩ | ⟨g', cur, e, hg, hlc, hcm, hcs, htk⟩
  · cases e
  · cases e
    have hc63 : (c : Int) ≤ 9223372036854775807 := by unfold maxLen at hcm; omega
    have hnc : n ≤ c := by omega
    have h1 : ¬ ((m : Int) < 0) := by omega
    have h2 : wrap64 ((c : Int) - (n : Int)) = (c : Int) - (n : Int) := by unfold wrap64; omega
    have h3 : wrap64 ((m : Int) - ((c : Int) - (n : Int))) = (m : Int) - ((c : Int) - (n : Int)) := by unfold wrap64; omega
    by_cases hroom : n + m ≤ c
    · have h4 : ¬ ((m : Int) - ((c : Int) - (n : Int)) > 0) := by omega
      clear hcm hcs htk hg hlc
      have HO : Hid (Owns w (some ⟨g, 0, none⟩) c bs) := hO
      clear hO hn
      go_enter Tryz.func86, Tryz.ntmps86
      go_wp2
      go_ret
      exact ⟨_, _, rfl, HO.out, .inl rfl, Keeps.refl _ _⟩
    · have h4 : (m : Int) - ((c : Int) - (n : Int)) > 0 := by omega
      have hck : c + (n + m - c) = n + m := by omega
      have hold : (Builtin.firstCells i0.size c (.slice (some ⟨g, 0, none⟩) c c)).run Tryz.prog w.drew = .ok cur.toList.toArray w.drew :=
        run_firstCells_some w.drew i0.size c ⟨g, 0, none⟩ c c cur.toList (by rw [hz1]; simp [hcs]) (fun j v hj => by
          rw [addr_add, Nat.zero_add]
          show w.cell? _ = _
          rw [cell_of_blk hg, ← Array.getElem?_toList]; exact hj)
      have hrz : ∀ ty, (Builtin.append_ #[42, 3] ty #[.slice (some ⟨g, 0, none⟩) c c, .int .i64 ((m : Int) - ((c : Int) - (n : Int)))]).run Tryz.prog w =
          .ok (.slice (some ⟨w.heap.size, 0, none⟩) (n + m) (grownCap w (n + m) c 5)) (w.drew.alloc (.cells (cur.toList.toArray ++ Builtin.zeroCells (Value.int .u8 0).cells (n + m - c) ++ Builtin.zeroCells (Value.int .u8 0).cells (grownCap w (n + m) c 5 - (n + m))) 5)) := fun ty => by
        have h := Lib.run_append_grow_zeros w 42 3 ty 5 i0 _ .i64 .i64 Tryz.underlying42 Tryz.underlying3 hi hz0 (some ⟨g, 0, none⟩) c c cur.toList hold (n + m - c) (by omega) (by rw [hz1]; decide) (by omega) (by omega)
          (by rw [hz2]; omega)
          (by rw [hck, hz2]; exact growslice_fits (by omega) (by omega))
        rw [hck] at h
        rw [show (m : Int) - ((c : Int) - (n : Int)) = ((n + m - c : Nat) : Int) by omega]
        exact h
      have hGn : n + m ≤ grownCap w (n + m) c 5 := grownCap_ge w _ _ _
      obtain ⟨G, hG⟩ : ∃ G, G = grownCap w (n + m) c 5 := ⟨_, rfl⟩
      rw [← hG] at hrz hGn
      have hGm : G ≤ maxLen := by
        have := grownCap_le_maxLen w (n + m) c 5 (by unfold maxLen; omega)
        rw [← hG] at this
        exact this
      have hG63 : (G : Int) ≤ 9223372036854775807 := by unfold maxLen at hGm; omega
      have HNEW : Hid (Owns (w.drew.alloc (.cells (cur.toList.toArray ++ Builtin.zeroCells (Value.int .u8 0).cells (n + m - c) ++ Builtin.zeroCells (Value.int .u8 0).cells (G - (n + m))) 5)) (some ⟨w.heap.size, 0, none⟩) G bs) := by
        refine ⟨by simp [vals], .inr ⟨w.heap.size, G, _, rfl, Nat.zero_le _, blk_new w.drew _, by omega, hGm, ?_, ?_⟩⟩
        · simp only [Array.size_append, size_zeroCells, hcs, Value.cells]
          simp
          omega
        · simp only [Array.toList_append, List.toList_toArray]
          rw [List.append_assoc, List.take_append_of_le_length (by simp [hcs]; omega)]
          simpa using htk
      generalize Obj.cells (cur.toList.toArray ++ Builtin.zeroCells (Value.int .u8 0).cells (n + m - c) ++ Builtin.zeroCells (Value.int .u8 0).cells (G - (n + m))) 5 = OB at hrz HNEW
      clear hold hck hG hg hcs htk hlc hcm hGm hroom hn hO
      go_enter Tryz.func86, Tryz.ntmps86
      go_wp2_with (at_builtin; refine Lib.wpList_append_run _ rfl _ _ _ _ rfl _ _ rfl rfl _ _ (hrz _) ?_)
      go_ret
      exact ⟨_, _, rfl, HNEW.out, .inr ⟨_, rfl, Nat.le_refl _⟩, ((Keeps.refl _ w).drew).alloc _⟩
end Go.Proofs.YtgamhblkgojapaaGreatDoor
