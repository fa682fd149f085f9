/- The document's Begin, Give, Result, ID. -/
import Derived.Test.YtghnhkhhpeoheaaGreatDA
namespace Go.Proofs.YtghnhkhhpeoheaaGreat
open Go.RowKit Go.Sort Orl
set_option linter.unusedVariables false
set_option linter.unusedSimpArgs false

set_option maxRecDepth 10000 in
set_option maxHeartbeats 1000000 in
theorem dBegin_any (w : World) (p : Nat) (F : Nat → Prop) (s : WS) (m : Nat) (h : Rd w p F s m) (hw : WfS s) (hm : m < 18446744073709551616) :
    Calls Tryz.prog 11 #[.pointer (some ⟨p, 0, none⟩)] w (RTellTo w p F (beginS s m)) := by
  obtain ⟨oP, cP, gs, oK, cK, oA, cA, rs, oD, cD, hl⟩ := h
  have hR : Rd w p F s m := ⟨oP, cP, gs, oK, cK, oA, cA, rs, oD, cD, hl⟩
  obtain ⟨-, -, -, -, -, a5, a6, -⟩ := rd_cells hl.blk
  have hr2 := hw.round
  have he4 := hw.ended
  by_cases h0 : s.round = 0
  · by_cases he : s.ended = 0
    · have HA : Hid (Calls Tryz.prog 34 #[.pointer (some ⟨p, 0, none⟩), .int .i64 1] w (RTellTo w p F (beginS s m))) := by
        have h1 := dAsk_any w p F s m hR hw (by omega) hm
        have e : beginS s m = ⟨askS s m, askedS (askS s m), numS s m⟩ := by unfold beginS; rw [if_pos ⟨h0, he⟩]
        have e2 : ((s.round + 1 : Nat) : Int) = 1 := by omega
        rw [e2] at h1
        rw [e]
        exact h1
      rw [h0] at a5
      rw [he] at a6
      clear hl hR hw hm hr2 he4 h0 he
      go_enter Tryz.func11, Tryz.ntmps11
      go_wp2_with fail
      refine Calls.mono HA.out ?_
      rintro e w9 ⟨o9, n9, c9, r9, G9, rfl, ht⟩
      have HT : Hid (RTell w p F (beginS s m) o9 n9 c9 r9 G9 w9) := ht
      clear ht
      go_wp2_with fail
      go_ret
      exact ⟨o9, n9, c9, r9, G9, rfl, HT.out⟩
    · have HZ : Hid (RTellTo w p F (beginS s m) (.returned (.slice none 0 0)) w) := by
        have e : beginS s m = ⟨s, [], m⟩ := by unfold beginS; rw [if_neg (fun h => he h.2)]
        rw [e]; exact rtell_none hR (Keeps.refl _ _)
      rw [h0] at a5
      have hg : (0 : Int) < (s.ended : Int) := by omega
      have hg2 : decide ((0 : Int) < (s.ended : Int)) = true := by simpa using hg
      have hg3 : decide (0 < s.ended) = true := by simp; omega
      clear hl hR hw hm hr2 he4 h0 he
      go_enter Tryz.func11, Tryz.ntmps11
      go_wp2_with fail
      go_ret
      exact HZ.out
  · have HZ : Hid (RTellTo w p F (beginS s m) (.returned (.slice none 0 0)) w) := by
      have e : beginS s m = ⟨s, [], m⟩ := by unfold beginS; rw [if_neg (fun h => h0 h.1)]
      rw [e]; exact rtell_none hR (Keeps.refl _ _)
    have hg : (0 : Int) < (s.round : Int) := by omega
    have hg2 : decide ((0 : Int) < (s.round : Int)) = true := by simpa using hg
    have hg3 : decide (0 < s.round) = true := by simp; omega
    clear hl hR hw hm hr2 he4 h0
    go_enter Tryz.func11, Tryz.ntmps11
    go_wp2_with fail
    go_ret
    exact HZ.out
theorem dResult_any (w : World) (p : Nat) (F : Nat → Prop) (s : WS) (m : Nat) (h : Rd w p F s m) :
    Calls Tryz.prog 21 #[.pointer (some ⟨p, 0, none⟩)] w fun e w' => e = .returned (.int .i64 (s.ended : Nat)) ∧ w' = w := by
  obtain ⟨oP, cP, gs, oK, cK, oA, cA, rs, oD, cD, hl⟩ := h
  obtain ⟨-, -, -, -, -, -, a6, -⟩ := rd_cells hl.blk
  clear hl
  go_enter Tryz.func21, Tryz.ntmps21
  go_wp2_with fail
  go_ret
  exact ⟨rfl, rfl⟩
theorem dID_any (w : World) (p : Nat) (F : Nat → Prop) (s : WS) (m : Nat) (h : Rd w p F s m) :
    Calls Tryz.prog 23 #[.pointer (some ⟨p, 0, none⟩)] w fun e w' => e = .returned (.int .u64 (s.id : Nat)) ∧ w' = w := by
  obtain ⟨oP, cP, gs, oK, cK, oA, cA, rs, oD, cD, hl⟩ := h
  obtain ⟨a0, -, -, -, -, -, -, -⟩ := rd_cells hl.blk
  clear hl
  go_enter Tryz.func23, Tryz.ntmps23
  go_wp2_with fail
  go_ret
  exact ⟨rfl, rfl⟩
set_option maxRecDepth 10000 in
set_option maxHeartbeats 1000000 in
theorem dGive_any (w : World) (p : Nat) (F : Nat → Prop) (s : WS) (m : Nat) (h : Rd w p F s m) (hw : WfS s) :
    Calls Tryz.prog 18 #[.pointer (some ⟨p, 0, none⟩)] w fun e w' => e = .returned (.tuple #[]) ∧ Rd w' p F (giveS s) m ∧ Keeps F w w' := by
  obtain ⟨oP, cP, gs, oK, cK, oA, cA, rs, oD, cD, hl⟩ := h
  have hR : Rd w p F s m := ⟨oP, cP, gs, oK, cK, oA, cA, rs, oD, cD, hl⟩
  obtain ⟨-, -, -, -, -, a5, a6, -⟩ := rd_cells hl.blk
  have hr2 := hw.round
  have he4 := hw.ended
  have HST : ∀ (W : World) (v : Nat), Keeps (fun i => i = p) w W → W.heap[p]? = some (.cells (rdC s.id oP s.ps.length cP oK s.keys.length cK oA (askI s).length cA oD s.done.length cD s.round v m) 58 (0, 0)) → Rd W p F { s with ended := v } m ∧ Keeps F w W := fun W v hk hb => ⟨⟨oP, cP, gs, oK, cK, oA, cA, rs, oD, cD, hl.nums hk hb⟩, hk.mono (fun i hi => by subst hi; exact hl.pF)⟩
  by_cases he : s.ended = 0
  · have f6 := frozen_of_blk hl.blk 6
    have k1 : Keeps (fun i => i = p) w (w.setCell ⟨p, 6, none⟩ (.int .i64 3)) := (Keeps.refl (fun i => i = p) w).setCell (p := ⟨p, 6, none⟩) (.inl rfl) _
    have b1 : (w.setCell ⟨p, 6, none⟩ (.int .i64 3)).heap[p]? = some (.cells (rdC s.id oP s.ps.length cP oK s.keys.length cK oA (askI s).length cA oD s.done.length cD s.round 3 m) 58 (0, 0)) := blk_set hl.blk 6 _
    rw [he] at a6
    by_cases h2 : s.round = 2
    · have k2 : Keeps (fun i => i = p) w ((w.setCell ⟨p, 6, none⟩ (.int .i64 3)).setCell ⟨p, 6, none⟩ (.int .i64 4)) := k1.setCell (p := ⟨p, 6, none⟩) (.inl rfl) _
      have b2 : ((w.setCell ⟨p, 6, none⟩ (.int .i64 3)).setCell ⟨p, 6, none⟩ (.int .i64 4)).heap[p]? = some (.cells (rdC s.id oP s.ps.length cP oK s.keys.length cK oA (askI s).length cA oD s.done.length cD s.round 4 m) 58 (0, 0)) := blk_set b1 6 _
      have HZ : Hid (Rd ((w.setCell ⟨p, 6, none⟩ (.int .i64 3)).setCell ⟨p, 6, none⟩ (.int .i64 4)) p F (giveS s) m ∧ Keeps F w ((w.setCell ⟨p, 6, none⟩ (.int .i64 3)).setCell ⟨p, 6, none⟩ (.int .i64 4))) := by
        have e : giveS s = { s with ended := 4 } := by unfold giveS; rw [if_pos he, if_pos h2]
        rw [e]; exact HST _ 4 k2 b2
      rw [h2] at a5
      clear HST k1 k2 b1 b2 hl hR hw hr2 he4 he h2
      go_enter Tryz.func18, Tryz.ntmps18
      go_wp2_with fail
      refine bodyPost_end (results_none rfl _ _ _) rfl ?_
      exact ⟨rfl, HZ.out⟩
    · have HZ : Hid (Rd (w.setCell ⟨p, 6, none⟩ (.int .i64 3)) p F (giveS s) m ∧ Keeps F w (w.setCell ⟨p, 6, none⟩ (.int .i64 3))) := by
        have e : giveS s = { s with ended := 3 } := by unfold giveS; rw [if_pos he, if_neg h2]
        rw [e]; exact HST _ 3 k1 b1
      have hg : ((s.round : Int) == 2) = false := by simp; omega
      have hg2 : (s.round == 2) = false := by simpa using h2
      clear HST k1 b1 hl hR hw hr2 he4 he h2
      go_enter Tryz.func18, Tryz.ntmps18
      go_wp2_with fail
      refine bodyPost_end (results_none rfl _ _ _) rfl ?_
      exact ⟨rfl, HZ.out⟩
  · have HZ : Hid (Rd w p F (giveS s) m ∧ Keeps F w w) := by
      have e : giveS s = s := by unfold giveS; rw [if_neg he]
      rw [e]; exact ⟨hR, Keeps.refl _ _⟩
    have hg : (0 : Int) < (s.ended : Int) := by omega
    have hg2 : decide ((0 : Int) < (s.ended : Int)) = true := by simpa using hg
    have hg3 : decide (0 < s.ended) = true := by simp; omega
    clear HST hl hR hw hr2 he4 he
    go_enter Tryz.func18, Tryz.ntmps18
    go_wp2_with fail
    refine bodyPost_ret (results_none rfl _ _ _) rfl ?_
    exact ⟨rfl, HZ.out⟩
end Go.Proofs.YtghnhkhhpeoheaaGreat
