/- The document's Again. -/
import Derived.Test.YtghnhkhhpeoheaaGreatDB
namespace Go.Proofs.YtghnhkhhpeoheaaGreat
open Go.RowKit Go.Sort Orl
set_option linter.unusedVariables false
set_option linter.unusedSimpArgs false

def selQ (e : Bool) (qs : List Qn) (ds : List Bool) (k : Nat) : List Qn := if e = true then tellQ qs ds k else []
theorem again_sel (s : WS) (e : Bool) (he : e = decide (s.ended = 0)) : selQ e (askI s) s.done (askI s).length = againS s := by
  unfold selQ againS askI
  by_cases h0 : s.round = 0
  · rw [if_pos h0, if_pos (show s.round = 0 ∨ ¬ s.ended = 0 from .inl h0)]
    split <;> rfl
  · by_cases h1 : s.ended = 0
    · have e1 : e = true := by rw [he]; simpa using h1
      rw [if_pos e1, if_neg h0, if_neg (by rintro (h | h); exact h0 h; exact h h1)]
      unfold tellQ
      rw [asked_len]
      apply List.map_congr_left
      intro i hi
      exact asked_at s (List.mem_range.1 (List.mem_filter.1 hi).1)
    · have e1 : e = false := by rw [he]; simpa using h1
      rw [e1, if_neg (by simp), if_pos (show s.round = 0 ∨ ¬ s.ended = 0 from .inr h1)]
/-- some of the rows -/
structure Sel (rs rl : List RQ) (qs ql : List Qn) : Prop where
  len : rl.length = ql.length
  each : ∀ j, j < ql.length → ∃ i, i < qs.length ∧ rl.getD j rq0 = rs.getD i rq0 ∧ ql.getD j q0 = qs.getD i q0
theorem Sel.push {rs rl : List RQ} {qs ql : List Qn} (h : Sel rs rl qs ql) {i : Nat} (hi : i < qs.length) : Sel rs (rl ++ [rs.getD i rq0]) qs (ql ++ [qs.getD i q0]) := by
  refine ⟨by simp [h.len], fun j hj => ?_⟩
  rw [getD_app, getD_app, h.len]
  by_cases e : j < ql.length
  · rw [if_pos e, if_pos e]; exact h.each j e
  · rw [List.length_append, List.length_singleton] at hj
    have e0 : j - ql.length = 0 := by omega
    rw [if_neg e, if_neg e, e0]
    exact ⟨i, hi, rfl, rfl⟩
set_option maxRecDepth 10000 in
set_option maxHeartbeats 2000000 in
theorem dAgain_any (w : World) (p : Nat) (F : Nat → Prop) (s : WS) (m : Nat) (h : Rd w p F s m) (hw : WfS s) :
    Calls Tryz.prog 16 #[.pointer (some ⟨p, 0, none⟩)] w (RTellTo w p F ⟨s, againS s, m⟩) := by
  obtain ⟨oP, cP, gs, oK, cK, oA, cA, rs, oD, cD, hl⟩ := h
  have HR : Hid (Rd w p F s m) := ⟨oP, cP, gs, oK, cK, oA, cA, rs, oD, cD, hl⟩
  have HL : Hid (RdL w p F s.id s.ps s.keys (askI s) s.done s.round s.ended m oP cP gs oK cK oA cA rs oD cD) := hl
  obtain ⟨eb, heb⟩ : ∃ eb, eb = decide (s.ended = 0) := ⟨_, rfl⟩
  have heI : (((s.ended : Nat) : Int) == 0) = eb := by rw [heb]; by_cases e : s.ended = 0 <;> simp [e]
  have heN : (s.ended == 0) = eb := by rw [heb]; by_cases e : s.ended = 0 <;> simp [e]
  have HSE : Hid (selQ eb (askI s) s.done (askI s).length = againS s) := again_sel s eb heb
  obtain ⟨nA, hnA⟩ : ∃ nA, nA = (askI s).length := ⟨_, rfl⟩
  have h64 : (askI s).length ≤ 64 := by unfold askI; split; simp; rw [asked_len]; exact hw.most
  have hDl : (askI s).length ≤ s.done.length := by
    unfold askI; split
    · simp
    · rename_i h0; rw [asked_len, hw.done h0]; exact Nat.le_refl _
  have hnA6 : (nA : Int) ≤ 64 := by omega
  have hDl2 : (nA : Int) ≤ (s.done.length : Int) := by omega
  have HN : Hid (nA = (askI s).length ∧ (askI s).length ≤ s.done.length) := ⟨hnA, hDl⟩
  have HFT : Hid (FitQs (againS s)) := hw.fitA
  have HCL : Hid (∀ X, Keeps no w X → X.cell? ⟨p, 3, none⟩ = some (.slice oA nA cA) ∧ X.cell? ⟨p, 4, none⟩ = some (.slice oD s.done.length cD) ∧ X.cell? ⟨p, 6, none⟩ = some (.int .i64 (s.ended : Nat))) := by
    intro X hX
    obtain ⟨-, -, -, a3, a4, -, a6, -⟩ := rd_cells (hl.keepsN hX).blk
    rw [← hnA] at a3
    exact ⟨a3, a4, a6⟩
  clear hl hw heb h64 hDl hnA
  go_enter Tryz.func16, Tryz.ntmps16
  go_wp2_with fail
  go_loopw [3, 4] (fun s3 s4 wr => ∃ (k : Nat) (o : Option Addr) (n c : Nat), k ≤ nA ∧ s4 = .int .i64 k ∧ s3 = .slice o n c ∧ n ≤ k ∧ Hid (∃ rl, n = (selQ eb (askI s) s.done k).length ∧ Own QE wr o c rl ∧ Sel rs rl (askI s) (selQ eb (askI s) s.done k) ∧ New w o ∧ Keeps no w wr)) (fun _ s4 _ => nA - (intOf s4).toNat)
  case atStart =>
    refine ⟨0, none, 0, 0, by omega, rfl, rfl, by omega, [], ?_, own_nil _, ?_, new_none _, Keeps.refl _ _⟩
    · unfold selQ tellQ; split <;> rfl
    · have : selQ eb (askI s) s.done 0 = [] := by unfold selQ tellQ; split <;> rfl
      rw [this]; exact ⟨rfl, fun j hj => absurd hj (by simp)⟩
  case round =>
    rename World => wr
    obtain ⟨k, o, n, c, hk, rfl, rfl, hnk, HT⟩ := hrel
    obtain ⟨rl, hn, hown, hsel, hnew, hkw⟩ := HT.out
    have HT2 : Hid (n = (selQ eb (askI s) s.done k).length ∧ Own QE wr o c rl ∧ Sel rs rl (askI s) (selQ eb (askI s) s.done k) ∧ New w o ∧ Keeps no w wr) := ⟨hn, hown, hsel, hnew, hkw⟩
    obtain ⟨a3, a4, a6⟩ := HCL.out wr hkw
    clear hn hown hsel hnew HT
    by_cases hlt : k < nA
    · have hlt' : (k : Int) < nA := by omega
      have hkq : k < (askI s).length := by have := HN.out.1; omega
      have hkd : k < s.done.length := by have := HN.out.2; omega
      have hkd' : (k : Int) < (s.done.length : Int) := by omega
      obtain ⟨bD, hbD, -, d1, -⟩ := (HL.out.keepsN hkw).done.atB hkd
      obtain ⟨bA, offA, hbA, h9⟩ := (HL.out.keepsN hkw).asked.sl.atQ (j := k) (by rw [HL.out.len]; exact hkq)
      obtain ⟨dk, hdk⟩ : ∃ dk, dk = s.done.getD k true := ⟨_, rfl⟩
      rw [← hdk] at d1
      have HDK : Hid (s.done.getD k true = dk) := hdk.symm
      have HRK : Hid (rs.getD k rq0 = rs.getD k rq0 ∧ k < (askI s).length) := ⟨rfl, hkq⟩
      generalize hrk : rs.getD k rq0 = r at h9
      have HRr : Hid (rs.getD k rq0 = r) := hrk
      clear hrk hdk hkq hkd hkw
      obtain ⟨x0, x1, x2, x3, x4, xpo, xpn, xpc, xko, xkn, xkc, xwo, xwc, xvo, xvc⟩ := r
      obtain ⟨z0, z1, z2, z3, z4, z5, z6, z7, z8⟩ := h9
      simp only at z0 z1 z2 z3 z4 z5 z6 z7 z8
      subst hbA hbD
      have hskip : (dk = true ∨ eb = false) → selQ eb (askI s) s.done (k + 1) = selQ eb (askI s) s.done k := by
        intro hh
        unfold selQ
        split
        · rename_i e1
          rcases hh with e2 | e2
          · exact tellQ_yes _ _ _ (by rw [HDK.out]; exact e2)
          · rw [e2] at e1; cases e1
        · rfl
      cases dk with
      | true =>
        have HS : Hid (selQ eb (askI s) s.done (k + 1) = selQ eb (askI s) s.done k) := hskip (.inl rfl)
        clear hskip
        go_wp2_with fail
        go_roundw
        case rel => exact ⟨k + 1, o, n, c, by omega, by go_num, rfl, by omega, rl, by rw [HS.out]; exact HT2.out⟩
        case measure => simp [intOf]; omega
      | false =>
        cases eb with
        | false =>
          have HS : Hid (selQ false (askI s) s.done (k + 1) = selQ false (askI s) s.done k) := hskip (.inr rfl)
          clear hskip
          go_wp2_with fail
          go_roundw
          case rel => exact ⟨k + 1, o, n, c, by omega, by go_num, rfl, by omega, rl, by rw [HS.out]; exact HT2.out⟩
          case measure => simp [intOf]; omega
        | true =>
          have HS : Hid (selQ true (askI s) s.done (k + 1) = selQ true (askI s) s.done k ++ [(askI s).getD k q0]) := by
            unfold selQ; exact tellQ_no _ _ _ HDK.out
          clear hskip
          go_wp2_with (at_builtin; refine wpList_app okQ rfl _ _ rfl o n c rl rfl (by rw [HT2.out.2.2.1.len]; exact HT2.out.1) (HT2.out.2.1.keepsN ((Keeps.refl _ _).alloc _)) _ _ _ [⟨x0, x1, x2, x3, x4, xpo, xpn, xpc, xko, xkn, xkc, xwo, xwc, xvo, xvc⟩] rfl rfl (fun h => by cases h) (lit_one (E := QE) _ ⟨x0, x1, x2, x3, x4, xpo, xpn, xpc, xko, xkn, xkc, xwo, xwc, xvo, xvc⟩ _ rfl).row (by have h1 := HT2.out.2.2.1.len; have h2 := HT2.out.1; simp [QE]; omega) (by have h1 := HT2.out.2.2.1.len; have h2 := HT2.out.1; simp; omega) ?_; intro o9 c9 w9 ho9 hap9)
          go_roundw
          case rel =>
            refine ⟨k + 1, o9, n + 1, c9, by omega, by go_num, rfl, by omega, rl ++ [⟨x0, x1, x2, x3, x4, xpo, xpn, xpc, xko, xkn, xkc, xwo, xwc, xvo, xvc⟩], ?_⟩
            obtain ⟨h1, h2, h3, h4, h5⟩ := HT2.out
            have hs := h3.push HRK.out.2
            rw [HRr.out] at hs
            have hh := hap9.new h4 (h5.alloc _)
            rw [HS.out]
            exact ⟨by rw [List.length_append, ← h1]; rfl, ho9, hs, hh.1, hh.2⟩
          case measure => simp [intOf]; omega
    · have hlt' : ¬ (k : Int) < nA := by omega
      have hkn : k = (askI s).length := by have := HN.out.1; omega
      obtain ⟨h1, h2, h3, h4, h5⟩ := HT2.out
      rw [hkn, HSE.out] at h1 h3
      have HQ : Hid (Calls Tryz.prog 43 #[.slice o n c] wr (CopyTo wr n (againS s))) := by
        refine copy_any wr o n c rl _ h1 HFT.out ⟨h2.sl, h3.len, fun j hj => ?_⟩
        obtain ⟨i, hi, e1, e2⟩ := h3.each j hj
        rw [e1, e2]
        exact ((HL.out.keepsN h5).row i hi).of
      have HX : Hid (n = (againS s).length ∧ Keeps no w wr) := ⟨h1, h5⟩
      clear h1 h2 h3 h4 h5 HT2 hkn
      unfold CopyTo at HQ
      go_wp2_with fail
      refine Calls.mono HQ.out ?_
      rintro e w9 ⟨o9, c9, r9, rfl, ht, hN, hk9⟩
      have HOUT : Hid (RTellTo w p F ⟨s, againS s, m⟩ (.returned (.slice o9 n c9)) w9) := by
        have hk := HX.out.2.trans hk9
        refine ⟨o9, n, c9, r9, F, rfl, HX.out.1, ht, fun j hj => Nat.le_trans HX.out.2.size (hN j hj), ⟨oP, cP, gs, oK, cK, oA, cA, rs, oD, cD, HL.out.keepsN hk⟩, fun j hj => .inl hj, ?_, hk.of_no⟩
        intro j hj hf
        have h1 := hN j hj
        have h2 := HL.out.lt j hf
        have h3 := HX.out.2.size
        omega
      clear ht hN hk9
      go_wp2_with fail
      go_ret
      exact HOUT.out
end Go.Proofs.YtghnhkhhpeoheaaGreat
