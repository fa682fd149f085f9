/- The document's read: one kind of messages. -/
import Derived.Test.YtjklpcamlppegaaGreatD1
namespace Go.Proofs.YtjklpcamlppegaaGreat
open Go.RowKit Go.Sort Orl Pk
set_option linter.unusedVariables false
set_option linter.unusedSimpArgs false

set_option maxRecDepth 20000 in
set_option maxHeartbeats 8000000 in
theorem readD_latest (w0 : World) (ob : Option Addr) (nb cb : Nat) (L : List Nat) (hn : nb = L.length) (hlid : L.length ≤ 140737488355328) (hs : BSl w0 ob cb L) (hG : (rnum 1 (L, 0)).1 = 3) :
    Calls Tryz.prog 44 #[.slice ob nb cb] w0 (ReadD w0 L) := by
  have k0 : Keeps no w0 (w0.alloc (.cells #[.int .i64 0, .int .i64 0, .int .u64 0, .int .u64 0, .slice none 0 0, .slice none 0 0, .slice none 0 0, .slice none 0 0] 29)) := (Keeps.refl no w0).alloc _
  have HN : Hid (nb = L.length) := hn
  have HSL : Hid (BSl (w0.alloc (.cells #[.int .i64 0, .int .i64 0, .int .u64 0, .int .u64 0, .slice none 0 0, .slice none 0 0, .slice none 0 0, .slice none 0 0] 29)) ob cb L) := hs.keeps k0 (fun _ _ h => h)
  clear hn hs
  go_enter Tryz.func44, Tryz.ntmps44
  go_wp2_with fail
  refine (refNewReader_any _ ob nb cb L HN.out HSL.out hlid).mono ?_
  rintro e w ⟨a, o, c, rfl, hR, hnew, hk1⟩
  have hk1' : Keeps no (w0.alloc (.cells #[.int .i64 0, .int .i64 0, .int .u64 0, .int .u64 0, .slice none 0 0, .slice none 0 0, .slice none 0 0, .slice none 0 0] 29)) w := hk1
  have K0 : Hid (Keeps no w0 w) := k0.trans hk1'
  have hB0 : w.heap[w0.heap.size]? = some (.cells #[.int .i64 0, .int .i64 0, .int .u64 0, .int .u64 0, .slice none 0 0, .slice none 0 0, .slice none 0 0, .slice none 0 0] 29 (0, 0)) := hk1'.at (blk_new w0 _) (fun h => h)
  have HLT : Hid (a < w.heap.size ∧ ∀ k, inO o k → k < w.heap.size) := ⟨lt_of_block hR.blk, hR.live⟩
  have haw : a < w.heap.size := HLT.out.1
  have hBa : w0.heap.size < a := by have := hnew a (.inl rfl); simp at this; omega
  have h0 := RStep.start hR
  have HLB : Hid (∀ c ∈ L, c < 256) := hR.sl.row.1
  clear hR hnew hk1 hk1' k0
  go_wp2_with fail
  refine (rdU8 h0).mono ?_
  rintro e w1 ⟨⟨K, rfl, hK, hKb⟩, h1, hk1⟩
  obtain rfl : K = 3 := hK.out.trans hG
  rw [show ((3 : Nat) : Int) = (3 : Int) from rfl]
  go_wp2_with fail
  refine (rdU8 h1).mono ?_
  rintro e w2 ⟨⟨C, rfl, hC, hCb⟩, h2, hk2⟩
  go_wp2_with fail
  refine (rdU64 h2).mono ?_
  rintro e w3 ⟨⟨Q, rfl, hQ, hQb⟩, h3, hk3⟩
  have HS : Hid (rmsg L = rfield 3 C Q (rnum 8 (rnum 1 (rnum 1 (L, 0)).2).2).2) := by
    show _ = _
    unfold rmsg; rw [hG, hC.out, hQ.out]
  have HFIT := rfield_fit 3 C Q (rnum 8 (rnum 1 (rnum 1 (L, 0)).2).2).2 h3.byt (by omega) hCb hQb
  have HBYT : Hid (Byt (rnum 8 (rnum 1 (rnum 1 (L, 0)).2).2).2) := h3.byt
  generalize (rnum 8 (rnum 1 (rnum 1 (L, 0)).2).2).2 = S at h3 HS HFIT HBYT
  have HF : Hid (Rng (rfield 3 C Q S).1 ∧ FitM (rfield 3 C Q S).1) := HFIT
  have HQB : Hid (Q < 18446744073709551616) := hQb
  have hk13 := (hk1.trans hk2).trans hk3
  have hB3 : w3.heap[w0.heap.size]? = some (.cells #[.int .i64 0, .int .i64 0, .int .u64 0, .int .u64 0, .slice none 0 0, .slice none 0 0, .slice none 0 0, .slice none 0 0] 29 (0, 0)) := hk13.at hB0 (by unfold eqA; omega)
  have HH : Hid (RdD w a w0.heap.size w3.heap.size o #[.int .i64 3, .int .i64 (C : Nat), .int .u64 (Q : Nat), .int .u64 0, .slice none 0 0, .slice none 0 0, .slice none 0 0, .slice none 0 0] S (w3.alloc (.cells #[.int .i64 3, .int .i64 (C : Nat), .int .u64 (Q : Nat), .int .u64 0, .slice none 0 0, .slice none 0 0, .slice none 0 0, .slice none 0 0] 29))) :=
    ⟨blk_new w3 _, blk_alloc hB3 _, h3.beside (.inr HLT.out) ((Keeps.refl no w3).alloc _) (fun i hi => hi.elim), hk13.alloc _, HLT.out, hBa, hk13.size⟩
  obtain ⟨M, hM⟩ : ∃ M, M = w3.heap.size := ⟨_, rfl⟩
  obtain ⟨B, hB⟩ : ∃ B, B = w0.heap.size := ⟨_, rfl⟩
  have HBE : Hid (B = w0.heap.size) := hB
  rw [← hM, ← hB] at HH
  rw [← hB]
  have HME : Hid (M = w3.heap.size) := hM
  clear hB hk13 hk1 hk2 hk3 h0 h1 h2 h3 HFIT hK hC hQ hB0 hB3 HLB hM hBa
  obtain ⟨x0, x1, x2, x3, x4, x5, x6, x7⟩ := cells8 HH.out.m
  rw [HME.out] at x0 x1 x2 x3 x4 x5 x6 x7
  have HR : Hid (rmsg L = (⟨3, C, Q, 0, (rkeys S).1, [], [], []⟩, (rkeys S).2)) := by
    show _ = _
    rw [HS.out]; unfold rfield
    rw [if_neg (by omega), if_neg (by unfold plainK; omega), if_pos (by omega)]; rfl
  rw [← HS.out, HR.out] at HF
  go_wp2_with fail
  refine (rdTexts HH.out.r).mono ?_
  rintro e w6 ⟨⟨ok, nk, ck, rfl, hnk, hownk, hnewk⟩, h6, hk6⟩
  have H6 : Hid _ := HH.out.call h6 hk6
  have hMs : M < (w3.alloc (.cells #[.int .i64 3, .int .i64 (C : Nat), .int .u64 (Q : Nat), .int .u64 0, .slice none 0 0, .slice none 0 0, .slice none 0 0, .slice none 0 0] 29)).heap.size := HH.out.size
  have HNk : Hid (∀ j, inO ok j → M < j) := fun j hj => by have := hnewk j hj; omega
  have H7 : Hid _ := H6.out.store 5 (.slice ok nk ck)
  have HOk : Hid (Own TE (w6.setCell ⟨M, 5, none⟩ (.slice ok nk ck)) ok ck (rkeys S).1) := H6.out.ownStore hownk HNk.out 5 _
  clear x0 x1 x2 x3 x4 x5 x6 x7
  obtain ⟨x0, x1, x2, x3, x4, x5, x6, x7⟩ := cells8 H6.out.m
  have f5 := frozen_of_blk H6.out.m 5
  rw [← HME.out]
  go_wp2_with fail
  generalize w6.setCell ⟨M, 5, none⟩ (.slice ok nk ck) = W at H7 HOk ⊢
  clear x0 x1 x2 x3 x4 x5 x6 x7 f5
  have HMM : Hid (IsM W (3) ((C : Nat)) ((Q : Nat)) (0) none 0 0 ok nk ck none 0 0 none 0 0 [] ⟨3, C, Q, 0, (rkeys S).1, [], [], []⟩) := ⟨rfl, rfl, rfl, rfl, rfl, hnk.out, rfl, rfl, own_nil_sl _, HOk.out.sl, own_nil_sl _, ⟨own_nil_sl _, rfl, fun j hj => by simp at hj⟩, HF.out.1, HF.out.2⟩
  have HOK : Hid (rok L = (rend0 ((rkeys S).2) && may (⟨3, C, Q, 0, (rkeys S).1, [], [], []⟩))) := by show _ = _; unfold rok; rw [HR.out]
  have HMQ : Hid (rok L = true → ⟨3, C, Q, 0, (rkeys S).1, [], [], []⟩ = (rmsg L).1) := fun _ => by rw [HR.out]
  (try clear x0 x1 x2 x3 x4 x5 x6 x7)
  obtain ⟨x0, x1, x2, x3, x4, x5, x6, x7⟩ := cells8 H7.out.m
  obtain ⟨y0, y1, y2, y3, y4, y5, y6, y7⟩ := cells8 H7.out.b
  have f0 := frozen_of_blk H7.out.b 0
  have f1 := frozen_of_blk H7.out.b 1
  have f2 := frozen_of_blk H7.out.b 2
  have f3 := frozen_of_blk H7.out.b 3
  have f4 := frozen_of_blk H7.out.b 4
  have f5 := frozen_of_blk H7.out.b 5
  have f6 := frozen_of_blk H7.out.b 6
  have f7 := frozen_of_blk H7.out.b 7
  have hne1 : ¬ M = B := by have := H7.out.lt; omega
  have hne2 : ¬ B = M := by omega
  obtain ⟨X, hX⟩ : ∃ X, rend0 ((rkeys S).2) = X := ⟨_, rfl⟩
  rw [hX] at HOK
  obtain ⟨E, hE, hE1, hE0⟩ := rend_of hX
  have HE : Hid (E = rend ((rkeys S).2).1 ((rkeys S).2).2) := hE
  clear hE hX
  cases X with
  | false =>
    have hEn : ¬ ((E : Nat) : Int) = 0 := by have := hE0 rfl; omega
    have hEb : (((E : Nat) : Int) == 0) = false := by simpa using hEn
    have hEd : decide (((E : Nat) : Int) = 0) = false := by simpa using hEn
    have hEN : ¬ E = 0 := by omega
    have hENb : (E == 0) = false := by simpa using hEN
    have hENd : decide (E = 0) = false := by simpa using hEN
    clear hE0 hE1
    go_region_law ((go_simp; go_at_call 81; refine (rdEnd HE.out (H7.out.r.beside (.inr HLT.out) (Keeps.refl no W).drew (fun i hi => hi.elim))).mono ?_; rintro e w9 ⟨rfl, h9⟩; subst w9))
    all_goals go_wp2_with fail
    all_goals (try simp only [Exit.inBlock, Exit.then])
    all_goals have hs8 := set8 H7.out.b (.int .i64 3) (.int .i64 (C : Nat)) (.int .u64 (Q : Nat)) (.int .u64 0) (.slice none 0 0) (.slice ok nk ck) (.slice none 0 0) (.slice none 0 0)
    all_goals unfold set8w at hs8
    all_goals refine bodyPost_ret (results_row2 rfl _ _ B _ rfl (loadMd hs8.1)) rfl ?_
    all_goals exact readD_mk H7.out K0.out (by have := HBE.out; omega) HMM.out (fun j hj => by obtain ⟨x, e, _⟩ := hj; cases e) HNk.out (fun j hj => by obtain ⟨x, e, _⟩ := hj; cases e) (fun j hj => by obtain ⟨x, e, _⟩ := hj; cases e) (fun j hj => by simp at hj) (Keeps.refl no _) hs8.2.drew false (by rw [HOK.out]; rfl) HMQ.out
  | true =>
    have hE2 := hE1 rfl
    subst hE2
    clear hE0 hE1
    obtain ⟨MY, hMY⟩ : ∃ MY, MY = may (⟨3, C, Q, 0, (rkeys S).1, [], [], []⟩) := ⟨_, rfl⟩
    have HMY : Hid (MY = may (⟨3, C, Q, 0, (rkeys S).1, [], [], []⟩)) := hMY
    clear hMY
    go_region_held3 (fun w' => w'.cell? ⟨M, 0, none⟩ = some (.int .i64 3) ∧ w'.cell? ⟨M, 1, none⟩ = some (.int .i64 (C : Nat)) ∧ w'.cell? ⟨M, 2, none⟩ = some (.int .u64 (Q : Nat)) ∧ w'.cell? ⟨M, 3, none⟩ = some (.int .u64 0) ∧ w'.cell? ⟨M, 4, none⟩ = some (.slice none 0 0) ∧ w'.cell? ⟨M, 5, none⟩ = some (.slice ok nk ck) ∧ w'.cell? ⟨M, 6, none⟩ = some (.slice none 0 0) ∧ w'.cell? ⟨M, 7, none⟩ = some (.slice none 0 0)) (go_keep) (first | (go_at_call 81; refine (rdEnd HE.out (H7.out.r.beside (.inr HLT.out) (Keeps.refl no W).drew (fun i hi => hi.elim))).mono ?_; rintro e w9 ⟨rfl, h9⟩; subst w9; rw [show ((0 : Nat) : Int) = (0 : Int) from rfl]) | (go_at_call 19; refine (refMay_any _ (3) ((C : Nat)) ((Q : Nat)) (0) none 0 0 ok nk ck none 0 0 none 0 0 [] _ (HMM.out.keepsN (Keeps.refl no W).drew)).mono ?_; rw [← HMY.out]; rintro e w10 ⟨rfl, hk10⟩; have K10 : Hid (Keeps no W w10) := (Keeps.refl no W).drew.trans hk10; clear hk10; obtain ⟨x0, x1, x2, x3, x4, x5, x6, x7⟩ := cells8 (K10.out.at H7.out.m (fun h => h)); have HB10 : Hid (_ = _) := K10.out.at H7.out.b (fun h => h); obtain ⟨y0, y1, y2, y3, y4, y5, y6, y7⟩ := cells8 HB10.out; have f0 := frozen_of_blk HB10.out 0; have f1 := frozen_of_blk HB10.out 1; have f2 := frozen_of_blk HB10.out 2; have f3 := frozen_of_blk HB10.out 3; have f4 := frozen_of_blk HB10.out 4; have f5 := frozen_of_blk HB10.out 5; have f6 := frozen_of_blk HB10.out 6; have f7 := frozen_of_blk HB10.out 7))
    all_goals go_wp2_with fail
    all_goals (try simp only [Exit.inBlock, Exit.then])
    all_goals have hs8 := set8 HB10.out (.int .i64 3) (.int .i64 (C : Nat)) (.int .u64 (Q : Nat)) (.int .u64 0) (.slice none 0 0) (.slice ok nk ck) (.slice none 0 0) (.slice none 0 0)
    all_goals unfold set8w at hs8
    all_goals refine bodyPost_ret (results_row2 rfl _ _ B _ rfl (loadM hs8.1)) rfl ?_
    all_goals exact readD_mk H7.out K0.out (by have := HBE.out; omega) HMM.out (fun j hj => by obtain ⟨x, e, _⟩ := hj; cases e) HNk.out (fun j hj => by obtain ⟨x, e, _⟩ := hj; cases e) (fun j hj => by obtain ⟨x, e, _⟩ := hj; cases e) (fun j hj => by simp at hj) K10.out hs8.2 MY (by rw [HOK.out, HMY.out]; rfl) HMQ.out

end Go.Proofs.YtjklpcamlppegaaGreat
