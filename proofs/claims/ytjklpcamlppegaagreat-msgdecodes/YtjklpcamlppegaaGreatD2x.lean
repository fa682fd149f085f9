import Derived.Test.YtjklpcamlppegaaGreatD1
/- The document's read: one kind of messages. -/
namespace Go.Proofs.YtjklpcamlppegaaGreat
open Go.RowKit Go.Sort Orl Pk
set_option linter.unusedVariables false
set_option linter.unusedSimpArgs false

set_option maxRecDepth 20000 in
set_option maxHeartbeats 8000000 in
theorem readD_latest (w0 : World) (ob : Option Addr) (nb cb : Nat) (L : List Nat) (hn : nb = L.length) (hlid : L.length ≤ 140737488355328) (hs : BSl w0 ob cb L) (hG : (rnum 1 (L, 0)).1 = 3) :
    Calls Tryz.prog 44 #[.slice ob nb cb] w0 (ReadD w0 L) := by
  have k0 : Keeps no w0 (w0.alloc (.cells #[.int .i64 0, .int .i64 0, .int .u64 0, .int .u64 0, .slice none 0 0, .slice none 0 0, .slice none 0 0, .slice none 0 0] 29)) := (Keeps.refl no w0).alloc _
  have HN : Hid (nb = L.length) := hn
  have HSL : Hid (BSl (w0.alloc (.cells #[.int .i64 0, .int .i64 0, .int .u64 0, .int .u64 0, .slice none 0 0, .slice none 0 0, .slice none 0 0, .slice none 0 0] 29)) ob cb L) := hs.keeps k0 (fun _ _ h => h)
  clear hn hs
  go_enter Tryz.func44, Tryz.ntmps44
  go_wp2_with fail
  refine (refNewReader_any _ ob nb cb L HN.out HSL.out hlid).mono ?_
  rintro e w ⟨a, o, c, rfl, hR, hnew, hk1⟩
  have hk1' : Keeps no (w0.alloc (.cells #[.int .i64 0, .int .i64 0, .int .u64 0, .int .u64 0, .slice none 0 0, .slice none 0 0, .slice none 0 0, .slice none 0 0] 29)) w := hk1
  have K0 : Hid (Keeps no w0 w) := k0.trans hk1'
  have hB0 : w.heap[w0.heap.size]? = some (.cells #[.int .i64 0, .int .i64 0, .int .u64 0, .int .u64 0, .slice none 0 0, .slice none 0 0, .slice none 0 0, .slice none 0 0] 29 (0, 0)) := hk1'.at (blk_new w0 _) (fun h => h)
  have HLT : Hid (a < w.heap.size ∧ ∀ k, inO o k → k < w.heap.size) := ⟨lt_of_block hR.blk, hR.live⟩
  have haw : a < w.heap.size := HLT.out.1
  have hBa : w0.heap.size < a := by have := hnew a (.inl rfl); simp at this; omega
  have h0 := RStep.start hR
  have HLB : Hid (∀ c ∈ L, c < 256) := hR.sl.row.1
  clear hR hnew hk1 hk1' k0
  go_wp2_with fail
  refine (rdU8 h0).mono ?_
  rintro e w1 ⟨⟨K, rfl, hK, hKb⟩, h1, hk1⟩
  obtain rfl : K = 3 := hK.out.trans hG
  rw [show ((3 : Nat) : Int) = (3 : Int) from rfl]
  go_wp2_with fail
  refine (rdU8 h1).mono ?_
  rintro e w2 ⟨⟨C, rfl, hC, hCb⟩, h2, hk2⟩
  go_wp2_with fail
  refine (rdU64 h2).mono ?_
  rintro e w3 ⟨⟨Q, rfl, hQ, hQb⟩, h3, hk3⟩
  have HS : Hid (rmsg L = rfield 3 C Q (rnum 8 (rnum 1 (rnum 1 (L, 0)).2).2).2) := by
    show _ = _
    unfold rmsg; rw [hG, hC.out, hQ.out]
  have HFIT := rfield_fit 3 C Q (rnum 8 (rnum 1 (rnum 1 (L, 0)).2).2).2 h3.byt (by omega) hCb hQb
  have HBYT : Hid (Byt (rnum 8 (rnum 1 (rnum 1 (L, 0)).2).2).2) := h3.byt
  generalize (rnum 8 (rnum 1 (rnum 1 (L, 0)).2).2).2 = S at h3 HS HFIT HBYT
  have HF : Hid (Rng (rfield 3 C Q S).1 ∧ FitM (rfield 3 C Q S).1) := HFIT
  have HQB : Hid (Q < 18446744073709551616) := hQb
  have hk13 := (hk1.trans hk2).trans hk3
  have hB3 : w3.heap[w0.heap.size]? = some (.cells #[.int .i64 0, .int .i64 0, .int .u64 0, .int .u64 0, .slice none 0 0, .slice none 0 0, .slice none 0 0, .slice none 0 0] 29 (0, 0)) := hk13.at hB0 (by unfold eqA; omega)
  have HH : Hid (RdD w a w0.heap.size w3.heap.size o #[.int .i64 3, .int .i64 (C : Nat), .int .u64 (Q : Nat), .int .u64 0, .slice none 0 0, .slice none 0 0, .slice none 0 0, .slice none 0 0] S (w3.alloc (.cells #[.int .i64 3, .int .i64 (C : Nat), .int .u64 (Q : Nat), .int .u64 0, .slice none 0 0, .slice none 0 0, .slice none 0 0, .slice none 0 0] 29))) :=
    ⟨blk_new w3 _, blk_alloc hB3 _, h3.beside (.inr HLT.out) ((Keeps.refl no w3).alloc _) (fun i hi => hi.elim), hk13.alloc _, HLT.out, hBa, hk13.size⟩
  obtain ⟨M, hM⟩ : ∃ M, M = w3.heap.size := ⟨_, rfl⟩
  obtain ⟨B, hB⟩ : ∃ B, B = w0.heap.size := ⟨_, rfl⟩
  have HBE : Hid (B = w0.heap.size) := hB
  rw [← hM, ← hB] at HH
  rw [← hB]
  have HME : Hid (M = w3.heap.size) := hM
  clear hB hk13 hk1 hk2 hk3 h0 h1 h2 h3 HFIT hK hC hQ hB0 hB3 HLB hM hBa
  obtain ⟨x0, x1, x2, x3, x4, x5, x6, x7⟩ := cells8 HH.out.m
  rw [HME.out] at x0 x1 x2 x3 x4 x5 x6 x7
  have HR : Hid (rmsg L = (⟨3, C, Q, 0, (rkeys S).1, [], [], []⟩, (rkeys S).2)) := by
    show _ = _
    rw [HS.out]; unfold rfield
    rw [if_neg (by omega), if_neg (by unfold plainK; omega), if_pos (by omega)]; rfl
  rw [← HS.out, HR.out] at HF
  go_wp2_with fail
  refine (rdTexts HH.out.r).mono ?_
  rintro e w6 ⟨⟨ok, nk, ck, rfl, hnk, hownk, hnewk⟩, h6, hk6⟩
  have H6 : Hid _ := HH.out.call h6 hk6
  have hMs : M < (w3.alloc (.cells #[.int .i64 3, .int .i64 (C : Nat), .int .u64 (Q : Nat), .int .u64 0, .slice none 0 0, .slice none 0 0, .slice none 0 0, .slice none 0 0] 29)).heap.size := HH.out.size
  have HNk : Hid (∀ j, inO ok j → M < j) := fun j hj => by have := hnewk j hj; omega
  have H7 : Hid _ := H6.out.store 5 (.slice ok nk ck)
  have HOk : Hid (Own TE (w6.setCell ⟨M, 5, none⟩ (.slice ok nk ck)) ok ck (rkeys S).1) := H6.out.ownStore hownk HNk.out 5 _
  clear x0 x1 x2 x3 x4 x5 x6 x7
  obtain ⟨x0, x1, x2, x3, x4, x5, x6, x7⟩ := cells8 H6.out.m
  have f5 := frozen_of_blk H6.out.m 5
  rw [← HME.out]
  go_wp2_with fail
  generalize w6.setCell ⟨M, 5, none⟩ (.slice ok nk ck) = W at H7 HOk ⊢
  clear x0 x1 x2 x3 x4 x5 x6 x7 f5
  have HMM : Hid (IsM W (3) ((C : Nat)) ((Q : Nat)) (0) none 0 0 ok nk ck none 0 0 none 0 0 [] ⟨3, C, Q, 0, (rkeys S).1, [], [], []⟩) := ⟨rfl, rfl, rfl, rfl, rfl, hnk.out, rfl, rfl, own_nil_sl _, HOk.out.sl, own_nil_sl _, ⟨own_nil_sl _, rfl, fun j hj => by simp at hj⟩, HF.out.1, HF.out.2⟩
  have HOK : Hid (rok L = (rend0 ((rkeys S).2) && may (⟨3, C, Q, 0, (rkeys S).1, [], [], []⟩))) := by show _ = _; unfold rok; rw [HR.out]
  have HMQ : Hid (rok L = true → ⟨3, C, Q, 0, (rkeys S).1, [], [], []⟩ = (rmsg L).1) := fun _ => by rw [HR.out]
  (try clear x0 x1 x2 x3 x4 x5 x6 x7)
  obtain ⟨x0, x1, x2, x3, x4, x5, x6, x7⟩ := cells8 H7.out.m
  obtain ⟨y0, y1, y2, y3, y4, y5, y6, y7⟩ := cells8 H7.out.b
  have f0 := frozen_of_blk H7.out.b 0
  have f1 := frozen_of_blk H7.out.b 1
  have f2 := frozen_of_blk H7.out.b 2
  have f3 := frozen_of_blk H7.out.b 3
  have f4 := frozen_of_blk H7.out.b 4
  have f5 := frozen_of_blk H7.out.b 5
  have f6 := frozen_of_blk H7.out.b 6
  have f7 := frozen_of_blk H7.out.b 7
  have hne1 : ¬ M = B := by have := H7.out.lt; omega
  have hne2 : ¬ B = M := by omega
  obtain ⟨X, hX⟩ : ∃ X, rend0 ((rkeys S).2) = X := ⟨_, rfl⟩
  rw [hX] at HOK
  obtain ⟨E, hE, hE1, hE0⟩ := rend_of hX
  have HE : Hid (E = rend ((rkeys S).2).1 ((rkeys S).2).2) := hE
  clear hE hX
  cases X with
  | false =>
    have hEn : ¬ ((E : Nat) : Int) = 0 := by have := hE0 rfl; omega
    have hEb : (((E : Nat) : Int) == 0) = false := by simpa using hEn
    have hEd : decide (((E : Nat) : Int) = 0) = false := by simpa using hEn
    have hEN : ¬ E = 0 := by omega
    have hENb : (E == 0) = false := by simpa using hEN
    have hENd : decide (E = 0) = false := by simpa using hEN
    clear hE0 hE1
    go_region_law ((go_simp; go_at_call 81; refine (rdEnd HE.out (H7.out.r.beside (.inr HLT.out) (Keeps.refl no W).drew (fun i hi => hi.elim))).mono ?_; rintro e w9 ⟨rfl, h9⟩; subst w9))
    all_goals go_wp2_with fail
    all_goals (try simp only [Exit.inBlock, Exit.then])
    all_goals have hs8 := set8 H7.out.b (.int .i64 3) (.int .i64 (C : Nat)) (.int .u64 (Q : Nat)) (.int .u64 0) (.slice none 0 0) (.slice ok nk ck) (.slice none 0 0) (.slice none 0 0)
    all_goals unfold set8w at hs8
    all_goals refine bodyPost_ret (results_row2 rfl _ _ B _ rfl (loadMd hs8.1)) rfl ?_
    all_goals exact readD_mk H7.out K0.out (by have := HBE.out; omega) HMM.out (fun j hj => by obtain ⟨x, e, _⟩ := hj; cases e) HNk.out (fun j hj => by obtain ⟨x, e, _⟩ := hj; cases e) (fun j hj => by obtain ⟨x, e, _⟩ := hj; cases e) (fun j hj => by simp at hj) (Keeps.refl no _) hs8.2.drew false (by rw [HOK.out]; rfl) HMQ.out
  | true =>
    have hE2 := hE1 rfl
    subst hE2
    clear hE0 hE1
    obtain ⟨MY, hMY⟩ : ∃ MY, MY = may (⟨3, C, Q, 0, (rkeys S).1, [], [], []⟩) := ⟨_, rfl⟩
    have HMY : Hid (MY = may (⟨3, C, Q, 0, (rkeys S).1, [], [], []⟩)) := hMY
    clear hMY
    go_region_held3 (fun w' => w'.cell? ⟨M, 0, none⟩ = some (.int .i64 3) ∧ w'.cell? ⟨M, 1, none⟩ = some (.int .i64 (C : Nat)) ∧ w'.cell? ⟨M, 2, none⟩ = some (.int .u64 (Q : Nat)) ∧ w'.cell? ⟨M, 3, none⟩ = some (.int .u64 0) ∧ w'.cell? ⟨M, 4, none⟩ = some (.slice none 0 0) ∧ w'.cell? ⟨M, 5, none⟩ = some (.slice ok nk ck) ∧ w'.cell? ⟨M, 6, none⟩ = some (.slice none 0 0) ∧ w'.cell? ⟨M, 7, none⟩ = some (.slice none 0 0)) (go_keep) (first | (go_at_call 81; refine (rdEnd HE.out (H7.out.r.beside (.inr HLT.out) (Keeps.refl no W).drew (fun i hi => hi.elim))).mono ?_; rintro e w9 ⟨rfl, h9⟩; subst w9; rw [show ((0 : Nat) : Int) = (0 : Int) from rfl]) | (go_at_call 19; refine (refMay_any _ (3) ((C : Nat)) ((Q : Nat)) (0) none 0 0 ok nk ck none 0 0 none 0 0 [] _ (HMM.out.keepsN (Keeps.refl no W).drew)).mono ?_; rw [← HMY.out]; rintro e w10 ⟨rfl, hk10⟩; have K10 : Hid (Keeps no W w10) := (Keeps.refl no W).drew.trans hk10; clear hk10; obtain ⟨x0, x1, x2, x3, x4, x5, x6, x7⟩ := cells8 (K10.out.at H7.out.m (fun h => h)); have HB10 : Hid (_ = _) := K10.out.at H7.out.b (fun h => h); obtain ⟨y0, y1, y2, y3, y4, y5, y6, y7⟩ := cells8 HB10.out; have f0 := frozen_of_blk HB10.out 0; have f1 := frozen_of_blk HB10.out 1; have f2 := frozen_of_blk HB10.out 2; have f3 := frozen_of_blk HB10.out 3; have f4 := frozen_of_blk HB10.out 4; have f5 := frozen_of_blk HB10.out 5; have f6 := frozen_of_blk HB10.out 6; have f7 := frozen_of_blk HB10.out 7))
    all_goals go_wp2_with fail
    all_goals (try simp only [Exit.inBlock, Exit.then])
    all_goals have hs8 := set8 HB10.out (.int .i64 3) (.int .i64 (C : Nat)) (.int .u64 (Q : Nat)) (.int .u64 0) (.slice none 0 0) (.slice ok nk ck) (.slice none 0 0) (.slice none 0 0)
    all_goals unfold set8w at hs8
    all_goals refine bodyPost_ret (results_row2 rfl _ _ B _ rfl (loadM hs8.1)) rfl ?_
    all_goals exact readD_mk H7.out K0.out (by have := HBE.out; omega) HMM.out (fun j hj => by obtain ⟨x, e, _⟩ := hj; cases e) HNk.out (fun j hj => by obtain ⟨x, e, _⟩ := hj; cases e) (fun j hj => by obtain ⟨x, e, _⟩ := hj; cases e) (fun j hj => by simp at hj) K10.out hs8.2 MY (by rw [HOK.out, HMY.out]; rfl) HMQ.out

end Go.Proofs.YtjklpcamlppegaaGreat
/- The document's read: one kind of messages. -/
namespace Go.Proofs.YtjklpcamlppegaaGreat
open Go.RowKit Go.Sort Orl Pk
set_option linter.unusedVariables false
set_option linter.unusedSimpArgs false

set_option maxRecDepth 20000 in
set_option maxHeartbeats 8000000 in
theorem readD_byid (w0 : World) (ob : Option Addr) (nb cb : Nat) (L : List Nat) (hn : nb = L.length) (hlid : L.length ≤ 140737488355328) (hs : BSl w0 ob cb L) (hG : (rnum 1 (L, 0)).1 = 4) :
    Calls Tryz.prog 44 #[.slice ob nb cb] w0 (ReadD w0 L) := by
  have k0 : Keeps no w0 (w0.alloc (.cells #[.int .i64 0, .int .i64 0, .int .u64 0, .int .u64 0, .slice none 0 0, .slice none 0 0, .slice none 0 0, .slice none 0 0] 29)) := (Keeps.refl no w0).alloc _
  have HN : Hid (nb = L.length) := hn
  have HSL : Hid (BSl (w0.alloc (.cells #[.int .i64 0, .int .i64 0, .int .u64 0, .int .u64 0, .slice none 0 0, .slice none 0 0, .slice none 0 0, .slice none 0 0] 29)) ob cb L) := hs.keeps k0 (fun _ _ h => h)
  clear hn hs
  go_enter Tryz.func44, Tryz.ntmps44
  go_wp2_with fail
  refine (refNewReader_any _ ob nb cb L HN.out HSL.out hlid).mono ?_
  rintro e w ⟨a, o, c, rfl, hR, hnew, hk1⟩
  have hk1' : Keeps no (w0.alloc (.cells #[.int .i64 0, .int .i64 0, .int .u64 0, .int .u64 0, .slice none 0 0, .slice none 0 0, .slice none 0 0, .slice none 0 0] 29)) w := hk1
  have K0 : Hid (Keeps no w0 w) := k0.trans hk1'
  have hB0 : w.heap[w0.heap.size]? = some (.cells #[.int .i64 0, .int .i64 0, .int .u64 0, .int .u64 0, .slice none 0 0, .slice none 0 0, .slice none 0 0, .slice none 0 0] 29 (0, 0)) := hk1'.at (blk_new w0 _) (fun h => h)
  have HLT : Hid (a < w.heap.size ∧ ∀ k, inO o k → k < w.heap.size) := ⟨lt_of_block hR.blk, hR.live⟩
  have haw : a < w.heap.size := HLT.out.1
  have hBa : w0.heap.size < a := by have := hnew a (.inl rfl); simp at this; omega
  have h0 := RStep.start hR
  have HLB : Hid (∀ c ∈ L, c < 256) := hR.sl.row.1
  clear hR hnew hk1 hk1' k0
  go_wp2_with fail
  refine (rdU8 h0).mono ?_
  rintro e w1 ⟨⟨K, rfl, hK, hKb⟩, h1, hk1⟩
  obtain rfl : K = 4 := hK.out.trans hG
  rw [show ((4 : Nat) : Int) = (4 : Int) from rfl]
  go_wp2_with fail
  refine (rdU8 h1).mono ?_
  rintro e w2 ⟨⟨C, rfl, hC, hCb⟩, h2, hk2⟩
  go_wp2_with fail
  refine (rdU64 h2).mono ?_
  rintro e w3 ⟨⟨Q, rfl, hQ, hQb⟩, h3, hk3⟩
  have HS : Hid (rmsg L = rfield 4 C Q (rnum 8 (rnum 1 (rnum 1 (L, 0)).2).2).2) := by
    show _ = _
    unfold rmsg; rw [hG, hC.out, hQ.out]
  have HFIT := rfield_fit 4 C Q (rnum 8 (rnum 1 (rnum 1 (L, 0)).2).2).2 h3.byt (by omega) hCb hQb
  have HBYT : Hid (Byt (rnum 8 (rnum 1 (rnum 1 (L, 0)).2).2).2) := h3.byt
  generalize (rnum 8 (rnum 1 (rnum 1 (L, 0)).2).2).2 = S at h3 HS HFIT HBYT
  have HF : Hid (Rng (rfield 4 C Q S).1 ∧ FitM (rfield 4 C Q S).1) := HFIT
  have HQB : Hid (Q < 18446744073709551616) := hQb
  have hk13 := (hk1.trans hk2).trans hk3
  have hB3 : w3.heap[w0.heap.size]? = some (.cells #[.int .i64 0, .int .i64 0, .int .u64 0, .int .u64 0, .slice none 0 0, .slice none 0 0, .slice none 0 0, .slice none 0 0] 29 (0, 0)) := hk13.at hB0 (by unfold eqA; omega)
  have HH : Hid (RdD w a w0.heap.size w3.heap.size o #[.int .i64 4, .int .i64 (C : Nat), .int .u64 (Q : Nat), .int .u64 0, .slice none 0 0, .slice none 0 0, .slice none 0 0, .slice none 0 0] S (w3.alloc (.cells #[.int .i64 4, .int .i64 (C : Nat), .int .u64 (Q : Nat), .int .u64 0, .slice none 0 0, .slice none 0 0, .slice none 0 0, .slice none 0 0] 29))) :=
    ⟨blk_new w3 _, blk_alloc hB3 _, h3.beside (.inr HLT.out) ((Keeps.refl no w3).alloc _) (fun i hi => hi.elim), hk13.alloc _, HLT.out, hBa, hk13.size⟩
  obtain ⟨M, hM⟩ : ∃ M, M = w3.heap.size := ⟨_, rfl⟩
  obtain ⟨B, hB⟩ : ∃ B, B = w0.heap.size := ⟨_, rfl⟩
  have HBE : Hid (B = w0.heap.size) := hB
  rw [← hM, ← hB] at HH
  rw [← hB]
  have HME : Hid (M = w3.heap.size) := hM
  clear hB hk13 hk1 hk2 hk3 h0 h1 h2 h3 HFIT hK hC hQ hB0 hB3 HLB hM hBa
  obtain ⟨x0, x1, x2, x3, x4, x5, x6, x7⟩ := cells8 HH.out.m
  rw [HME.out] at x0 x1 x2 x3 x4 x5 x6 x7
  have HR : Hid (rmsg L = (⟨4, C, Q, 0, [], [], (rwants S).1, []⟩, (rwants S).2)) := by
    show _ = _
    rw [HS.out]; unfold rfield
    rw [if_neg (by omega), if_neg (by unfold plainK; omega), if_neg (by omega), if_pos (by omega)]; rfl
  rw [← HS.out, HR.out] at HF
  go_wp2_with fail
  refine (rdCount HH.out.r).mono ?_
  rintro e w10 ⟨⟨N, rfl, HN', hN⟩, h10, hk10⟩
  have H10 : Hid _ := HH.out.call h10 hk10
  have HP : Hid (rwants S = rmany rwant N (rcount 1024 S).2) := by show _ = _; unfold rwants; rw [← HN'.out]
  generalize (rcount 1024 S).2 = S0 at H10 HP
  obtain ⟨Z, hZ⟩ : ∃ Z, Z = w10.heap.size := ⟨_, rfl⟩
  have HZE : Hid (Z = w10.heap.size) := hZ
  have hMZ : M < Z := by rw [hZ]; exact H10.out.size
  rw [← HME.out]
  clear hZ h10 hk10 x0 x1 x2 x3 x4 x5 x6 x7
  go_wp2_with fail
  go_loopw [10] (fun i wr => ∃ k : Nat, ∃ oo mo co, k ≤ N ∧ i = .int .i64 k ∧ Hid (RdD w a B M o #[.int .i64 4, .int .i64 (C : Nat), .int .u64 (Q : Nat), .int .u64 0, .slice none 0 0, .slice none 0 0, .slice oo mo co, .slice none 0 0] (rmany rwant k S0).2 wr ∧ Own WE wr oo co (rmany rwant k S0).1 ∧ mo = k ∧ (∀ j, inO oo j → Z ≤ j) ∧ Z ≤ wr.heap.size )) (fun i _ => N - (intOf i).toNat)
  case atStart => exact ⟨0, none, 0, 0, by omega, rfl, H10.out, own_nil _, rfl, (fun j hj => by obtain ⟨x, e, _⟩ := hj; cases e), by have := HZE.out; omega ⟩
  case round =>
    obtain ⟨k, oo, mo, co, hk, rfl, HI⟩ := hrel
    by_cases h2 : k < N
    · have HL : Hid (rmany rwant (k + 1) S0 = ((rmany rwant k S0).1 ++ [(rwant (rmany rwant k S0).2).1], (rwant (rmany rwant k S0).2).2)) := rfl
      have HLen : Hid ((rmany rwant k S0).1.length = k) := rmany_length _ _ _
      generalize (rmany rwant k S0).1 = Ls at HI HL HLen
      generalize (rmany rwant k S0).2 = Sk at HI HL
      have hmo : mo ≤ 1024 := by have := HI.out.2.2.1; omega
      have hk2' : (k : Int) < N := by omega
      have HML : Hid (mo = Ls.length ∧ Ls.length ≤ 1024) := ⟨by rw [HLen.out]; exact HI.out.2.2.1, by rw [HLen.out]; omega⟩
      have HB1 : Hid ((Ls.length + 1) * WE.nb ≤ 140737488355328 ∧ Ls.length + 1 ≤ 140737488355328) := ⟨by have := HML.out.2; simp only [WE]; omega, by have := HML.out.2; omega⟩
      go_wp2_with fail
      refine (rdText HI.out.1.r).mono ?_
      rintro e w11 ⟨⟨s1, rfl, hs1⟩, h11, hk11⟩
      have H11 : Hid _ := HI.out.1.call h11 hk11
      have HNo : Hid (∀ j, inO oo j → M < j) := fun j hj => by have := HI.out.2.2.2.1 j hj; omega
      have HO11 : Hid (Own WE w11 oo co Ls) := HI.out.1.ownCall HI.out.2.1 HNo.out hk11
      obtain ⟨x0, x1, x2, x3, x4, x5, x6, x7⟩ := cells8 H11.out.m
      have hZ11 : Z ≤ w11.heap.size := by have := HI.out.2.2.2.2; have := hk11.size; omega
      clear h11 hk11
      go_wp2_with fail
      go_region_law (first
        | (go_simp; go_at_call 77; refine (rdU64 (H11.out.r.beside (.inr HLT.out) (Keeps.refl no w11).drew (fun i hi => hi.elim))).mono ?_; rintro e w12 ⟨⟨s2, rfl, hs2, hs2b⟩, h12, hk12⟩; have H12 : Hid _ := (H11.out.more (Keeps.refl no w11).drew).call h12 hk12; have HO12 : Hid (Own WE w12 oo co Ls) := (H11.out.more (Keeps.refl no w11).drew).ownCall (HO11.out.keepsN (Keeps.refl no w11).drew) HNo.out hk12;  have hZ12 : Z ≤ w12.heap.size := Nat.le_trans hZ11 hk12.size; clear h12 hk12; obtain ⟨z0, z1, z2, z3, z4, z5, z6, z7⟩ := cells8 H12.out.m; obtain ⟨u0, u1, u2, u3, u4, u5, u6, u7⟩ := cells8 (blk_alloc H12.out.m (.cells #[.string s1, .int .u64 (s2 : Nat)] 53)))
        | (refine step_app okW rfl (.tmp 73) (.tmp 78) rfl oo mo co Ls ?_ HML.out.1 ?_ (some ⟨w12.heap.size, 0, none⟩) 1 1 [(s1, s2)] ?_ rfl ?_ ?_ HB1.out.1 HB1.out.2 ?_; rfl; exact HO12.out.keepsN ((Keeps.refl _ _).alloc _); rfl; exact (own_oneW w12 s1 s2).nil; exact (own_oneW w12 s1 s2).row; intro o5 c5 w5 ho5 hap5; obtain ⟨Q1, Q2, Q3⟩ := RdD.ap (α := Nat) (H12.out.more ((Keeps.refl no w12).alloc _)) HNo.out hap5; have HZ5 : Hid ((∀ j, inO o5 j → Z ≤ j) ∧ Z ≤ w5.heap.size) := ap_from hap5 HI.out.2.2.2.1 (Nat.le_trans hZ12 (by simp)); have H5 : Hid _ := Q1;  obtain ⟨v0, v1, v2, v3, v4, v5, v6, v7⟩ := cells8 H5.out.m; have g4 := frozen_of_blk H5.out.m 6))
      all_goals
        have H6 : Hid _ := H5.out.store 6 (.slice o5 (mo + 1) c5)
        have HO6 : Hid (Own WE (w5.setCell ⟨M, 6, none⟩ (.slice o5 (mo + 1) c5)) o5 c5 (Ls ++ [(s1, s2)])) := H5.out.ownStore ho5 (fun j hj => by have := HZ5.out.1 j hj; omega) 6 _
        (go_wp2_with fail
         go_roundw
         case rel =>
           refine ⟨k + 1, o5, mo + 1, c5, by omega, by go_num, ?_⟩
           rw [HL.out]
           refine ⟨?_, ?_, by have := HI.out.2.2.1; omega, HZ5.out.1, (by rw [World.size_setCell]; exact HZ5.out.2) ⟩
           · exact H6.out
           · simp only [rwant]; rw [← hs1.out, ← hs2.out]; exact HO6.out
         case measure => simp [intOf] <;> omega)
    · have hkn : k = N := by omega
      subst hkn
      have hk2' : ¬ (k : Int) < k := by omega
      go_wp2_with fail
      have HFI : Hid _ := HI.out.1
      have HPP : Hid (Own WE wr oo co (rmany rwant k S0).1) := HI.out.2.1
      have HNo : Hid (∀ j, inO oo j → M < j) := fun j hj => by have := HI.out.2.2.2.1 j hj; omega
      have hstl : Hid ((rmany rwant k S0).1.length = k) := rmany_length _ _ _
      have HMO : Hid (mo = k) := HI.out.2.2.1
      have HMM : Hid (IsM wr (4) ((C : Nat)) ((Q : Nat)) (0) none 0 0 none 0 0 oo mo co none 0 0 [] ⟨4, C, Q, 0, [], [], (rwants S).1, []⟩) := ⟨rfl, rfl, rfl, rfl, rfl, rfl, (by show mo = _; rw [HP.out, hstl.out]; exact HMO.out), rfl, own_nil_sl _, own_nil_sl _, (by rw [HP.out]; exact HPP.out.sl), ⟨own_nil_sl _, rfl, fun j hj => by simp at hj⟩, HF.out.1, HF.out.2⟩
      have HOK : Hid (rok L = (rend0 ((rmany rwant k S0).2) && may (⟨4, C, Q, 0, [], [], (rwants S).1, []⟩))) := by show _ = _; unfold rok; rw [HR.out, HP.out]
      have HMQ : Hid (rok L = true → ⟨4, C, Q, 0, [], [], (rwants S).1, []⟩ = (rmsg L).1) := fun _ => by rw [HR.out]
      (try clear x0 x1 x2 x3 x4 x5 x6 x7)
      obtain ⟨x0, x1, x2, x3, x4, x5, x6, x7⟩ := cells8 HFI.out.m
      obtain ⟨y0, y1, y2, y3, y4, y5, y6, y7⟩ := cells8 HFI.out.b
      have f0 := frozen_of_blk HFI.out.b 0
      have f1 := frozen_of_blk HFI.out.b 1
      have f2 := frozen_of_blk HFI.out.b 2
      have f3 := frozen_of_blk HFI.out.b 3
      have f4 := frozen_of_blk HFI.out.b 4
      have f5 := frozen_of_blk HFI.out.b 5
      have f6 := frozen_of_blk HFI.out.b 6
      have f7 := frozen_of_blk HFI.out.b 7
      have hne1 : ¬ M = B := by have := HFI.out.lt; omega
      have hne2 : ¬ B = M := by omega
      obtain ⟨X, hX⟩ : ∃ X, rend0 ((rmany rwant k S0).2) = X := ⟨_, rfl⟩
      rw [hX] at HOK
      obtain ⟨E, hE, hE1, hE0⟩ := rend_of hX
      have HE : Hid (E = rend ((rmany rwant k S0).2).1 ((rmany rwant k S0).2).2) := hE
      clear hE hX
      cases X with
      | false =>
        have hEn : ¬ ((E : Nat) : Int) = 0 := by have := hE0 rfl; omega
        have hEb : (((E : Nat) : Int) == 0) = false := by simpa using hEn
        have hEd : decide (((E : Nat) : Int) = 0) = false := by simpa using hEn
        have hEN : ¬ E = 0 := by omega
        have hENb : (E == 0) = false := by simpa using hEN
        have hENd : decide (E = 0) = false := by simpa using hEN
        clear hE0 hE1
        go_region_law ((go_simp; go_at_call 81; refine (rdEnd HE.out (HFI.out.r.beside (.inr HLT.out) (Keeps.refl no wr).drew (fun i hi => hi.elim))).mono ?_; rintro e w9 ⟨rfl, h9⟩; subst w9))
        all_goals go_wp2_with fail
        all_goals (try simp only [Exit.inBlock, Exit.then])
        all_goals have hs8 := set8 HFI.out.b (.int .i64 4) (.int .i64 (C : Nat)) (.int .u64 (Q : Nat)) (.int .u64 0) (.slice none 0 0) (.slice none 0 0) (.slice oo mo co) (.slice none 0 0)
        all_goals unfold set8w at hs8
        all_goals refine bodyPost_ret (results_row2 rfl _ _ B _ rfl (loadMd hs8.1)) rfl ?_
        all_goals exact readD_mk HFI.out K0.out (by have := HBE.out; omega) HMM.out (fun j hj => by obtain ⟨x, e, _⟩ := hj; cases e) (fun j hj => by obtain ⟨x, e, _⟩ := hj; cases e) HNo.out (fun j hj => by obtain ⟨x, e, _⟩ := hj; cases e) (fun j hj => by simp at hj) (Keeps.refl no _) hs8.2.drew false (by rw [HOK.out]; rfl) HMQ.out
      | true =>
        have hE2 := hE1 rfl
        subst hE2
        clear hE0 hE1
        obtain ⟨MY, hMY⟩ : ∃ MY, MY = may (⟨4, C, Q, 0, [], [], (rwants S).1, []⟩) := ⟨_, rfl⟩
        have HMY : Hid (MY = may (⟨4, C, Q, 0, [], [], (rwants S).1, []⟩)) := hMY
        clear hMY
        go_region_held3 (fun w' => w'.cell? ⟨M, 0, none⟩ = some (.int .i64 4) ∧ w'.cell? ⟨M, 1, none⟩ = some (.int .i64 (C : Nat)) ∧ w'.cell? ⟨M, 2, none⟩ = some (.int .u64 (Q : Nat)) ∧ w'.cell? ⟨M, 3, none⟩ = some (.int .u64 0) ∧ w'.cell? ⟨M, 4, none⟩ = some (.slice none 0 0) ∧ w'.cell? ⟨M, 5, none⟩ = some (.slice none 0 0) ∧ w'.cell? ⟨M, 6, none⟩ = some (.slice oo mo co) ∧ w'.cell? ⟨M, 7, none⟩ = some (.slice none 0 0)) (go_keep) (first | (go_at_call 81; refine (rdEnd HE.out (HFI.out.r.beside (.inr HLT.out) (Keeps.refl no wr).drew (fun i hi => hi.elim))).mono ?_; rintro e w9 ⟨rfl, h9⟩; subst w9; rw [show ((0 : Nat) : Int) = (0 : Int) from rfl]) | (go_at_call 19; refine (refMay_any _ (4) ((C : Nat)) ((Q : Nat)) (0) none 0 0 none 0 0 oo mo co none 0 0 [] _ (HMM.out.keepsN (Keeps.refl no wr).drew)).mono ?_; rw [← HMY.out]; rintro e w10 ⟨rfl, hk10⟩; have K10 : Hid (Keeps no wr w10) := (Keeps.refl no wr).drew.trans hk10; clear hk10; obtain ⟨x0, x1, x2, x3, x4, x5, x6, x7⟩ := cells8 (K10.out.at HFI.out.m (fun h => h)); have HB10 : Hid (_ = _) := K10.out.at HFI.out.b (fun h => h); obtain ⟨y0, y1, y2, y3, y4, y5, y6, y7⟩ := cells8 HB10.out; have f0 := frozen_of_blk HB10.out 0; have f1 := frozen_of_blk HB10.out 1; have f2 := frozen_of_blk HB10.out 2; have f3 := frozen_of_blk HB10.out 3; have f4 := frozen_of_blk HB10.out 4; have f5 := frozen_of_blk HB10.out 5; have f6 := frozen_of_blk HB10.out 6; have f7 := frozen_of_blk HB10.out 7))
        all_goals go_wp2_with fail
        all_goals (try simp only [Exit.inBlock, Exit.then])
        all_goals have hs8 := set8 HB10.out (.int .i64 4) (.int .i64 (C : Nat)) (.int .u64 (Q : Nat)) (.int .u64 0) (.slice none 0 0) (.slice none 0 0) (.slice oo mo co) (.slice none 0 0)
        all_goals unfold set8w at hs8
        all_goals refine bodyPost_ret (results_row2 rfl _ _ B _ rfl (loadM hs8.1)) rfl ?_
        all_goals exact readD_mk HFI.out K0.out (by have := HBE.out; omega) HMM.out (fun j hj => by obtain ⟨x, e, _⟩ := hj; cases e) (fun j hj => by obtain ⟨x, e, _⟩ := hj; cases e) HNo.out (fun j hj => by obtain ⟨x, e, _⟩ := hj; cases e) (fun j hj => by simp at hj) K10.out hs8.2 MY (by rw [HOK.out, HMY.out]; rfl) HMQ.out

end Go.Proofs.YtjklpcamlppegaaGreat
/- The document's read: one kind of messages. -/
namespace Go.Proofs.YtjklpcamlppegaaGreat
open Go.RowKit Go.Sort Orl Pk
set_option linter.unusedVariables false
set_option linter.unusedSimpArgs false

set_option maxRecDepth 20000 in
set_option maxHeartbeats 8000000 in
theorem readD_else (w0 : World) (ob : Option Addr) (nb cb : Nat) (L : List Nat) (hn : nb = L.length) (hlid : L.length ≤ 140737488355328) (hs : BSl w0 ob cb L) (hG : ¬ (rnum 1 (L, 0)).1 = 1 ∧ ¬ (rnum 1 (L, 0)).1 = 3 ∧ ¬ (rnum 1 (L, 0)).1 = 4 ∧ ¬ (rnum 1 (L, 0)).1 = 7) :
    Calls Tryz.prog 44 #[.slice ob nb cb] w0 (ReadD w0 L) := by
  have k0 : Keeps no w0 (w0.alloc (.cells #[.int .i64 0, .int .i64 0, .int .u64 0, .int .u64 0, .slice none 0 0, .slice none 0 0, .slice none 0 0, .slice none 0 0] 29)) := (Keeps.refl no w0).alloc _
  have HN : Hid (nb = L.length) := hn
  have HSL : Hid (BSl (w0.alloc (.cells #[.int .i64 0, .int .i64 0, .int .u64 0, .int .u64 0, .slice none 0 0, .slice none 0 0, .slice none 0 0, .slice none 0 0] 29)) ob cb L) := hs.keeps k0 (fun _ _ h => h)
  clear hn hs
  go_enter Tryz.func44, Tryz.ntmps44
  go_wp2_with fail
  refine (refNewReader_any _ ob nb cb L HN.out HSL.out hlid).mono ?_
  rintro e w ⟨a, o, c, rfl, hR, hnew, hk1⟩
  have hk1' : Keeps no (w0.alloc (.cells #[.int .i64 0, .int .i64 0, .int .u64 0, .int .u64 0, .slice none 0 0, .slice none 0 0, .slice none 0 0, .slice none 0 0] 29)) w := hk1
  have K0 : Hid (Keeps no w0 w) := k0.trans hk1'
  have hB0 : w.heap[w0.heap.size]? = some (.cells #[.int .i64 0, .int .i64 0, .int .u64 0, .int .u64 0, .slice none 0 0, .slice none 0 0, .slice none 0 0, .slice none 0 0] 29 (0, 0)) := hk1'.at (blk_new w0 _) (fun h => h)
  have HLT : Hid (a < w.heap.size ∧ ∀ k, inO o k → k < w.heap.size) := ⟨lt_of_block hR.blk, hR.live⟩
  have haw : a < w.heap.size := HLT.out.1
  have hBa : w0.heap.size < a := by have := hnew a (.inl rfl); simp at this; omega
  have h0 := RStep.start hR
  have HLB : Hid (∀ c ∈ L, c < 256) := hR.sl.row.1
  clear hR hnew hk1 hk1' k0
  go_wp2_with fail
  refine (rdU8 h0).mono ?_
  rintro e w1 ⟨⟨K, rfl, hK, hKb⟩, h1, hk1⟩
  have hGK : ¬ K = 1 ∧ ¬ K = 3 ∧ ¬ K = 4 ∧ ¬ K = 7 := by rw [hK.out]; exact hG
  go_wp2_with fail
  refine (rdU8 h1).mono ?_
  rintro e w2 ⟨⟨C, rfl, hC, hCb⟩, h2, hk2⟩
  go_wp2_with fail
  refine (rdU64 h2).mono ?_
  rintro e w3 ⟨⟨Q, rfl, hQ, hQb⟩, h3, hk3⟩
  have HS : Hid (rmsg L = rfield K C Q (rnum 8 (rnum 1 (rnum 1 (L, 0)).2).2).2) := by
    show _ = _
    unfold rmsg; rw [hK.out, hC.out, hQ.out]
  have HFIT := rfield_fit K C Q (rnum 8 (rnum 1 (rnum 1 (L, 0)).2).2).2 h3.byt (by omega) hCb hQb
  have HBYT : Hid (Byt (rnum 8 (rnum 1 (rnum 1 (L, 0)).2).2).2) := h3.byt
  generalize (rnum 8 (rnum 1 (rnum 1 (L, 0)).2).2).2 = S at h3 HS HFIT HBYT
  have HF : Hid (Rng (rfield K C Q S).1 ∧ FitM (rfield K C Q S).1) := HFIT
  have HQB : Hid (Q < 18446744073709551616) := hQb
  have hk13 := (hk1.trans hk2).trans hk3
  have hB3 : w3.heap[w0.heap.size]? = some (.cells #[.int .i64 0, .int .i64 0, .int .u64 0, .int .u64 0, .slice none 0 0, .slice none 0 0, .slice none 0 0, .slice none 0 0] 29 (0, 0)) := hk13.at hB0 (by unfold eqA; omega)
  have HH : Hid (RdD w a w0.heap.size w3.heap.size o #[.int .i64 (K : Nat), .int .i64 (C : Nat), .int .u64 (Q : Nat), .int .u64 0, .slice none 0 0, .slice none 0 0, .slice none 0 0, .slice none 0 0] S (w3.alloc (.cells #[.int .i64 (K : Nat), .int .i64 (C : Nat), .int .u64 (Q : Nat), .int .u64 0, .slice none 0 0, .slice none 0 0, .slice none 0 0, .slice none 0 0] 29))) :=
    ⟨blk_new w3 _, blk_alloc hB3 _, h3.beside (.inr HLT.out) ((Keeps.refl no w3).alloc _) (fun i hi => hi.elim), hk13.alloc _, HLT.out, hBa, hk13.size⟩
  obtain ⟨M, hM⟩ : ∃ M, M = w3.heap.size := ⟨_, rfl⟩
  obtain ⟨B, hB⟩ : ∃ B, B = w0.heap.size := ⟨_, rfl⟩
  have HBE : Hid (B = w0.heap.size) := hB
  rw [← hM, ← hB] at HH
  rw [← hB]
  have HME : Hid (M = w3.heap.size) := hM
  clear hB hk13 hk1 hk2 hk3 h0 h1 h2 h3 HFIT hK hC hQ hB0 hB3 HLB hM hBa
  obtain ⟨x0, x1, x2, x3, x4, x5, x6, x7⟩ := cells8 HH.out.m
  rw [HME.out] at x0 x1 x2 x3 x4 x5 x6 x7
  have HRB : Hid (rok L = (rend0 (rnum 8 S).2 && may ⟨K, C, Q, (rnum 8 S).1, [], [], [], []⟩) ∧ (rok L = true → (⟨K, C, Q, (rnum 8 S).1, [], [], [], []⟩ : Msg) = (rmsg L).1)) := by
    by_cases hp : plainK K
    · have e : rmsg L = (⟨K, C, Q, (rnum 8 S).1, [], [], [], []⟩, (rnum 8 S).2) := by
        rw [HS.out]; unfold rfield
        rw [if_neg (by omega), if_pos hp]
      exact ⟨by unfold rok; rw [e], fun _ => by rw [e]⟩
    · have h1 : ∀ m : Msg, m.kind = K → may m = false := by
        intro m hm
        have : mayF m = false := by
          unfold mayF; rw [hm]
          rw [if_neg (by omega), if_neg hp, if_neg (by omega), if_neg (by omega), if_neg (by omega)]
        unfold may; rw [this]; simp
      have ht : (rmsg L).1.kind = K := by rw [HS.out]; exact (rfield_top K C Q S).1
      have hf : rok L = false := by unfold rok; rw [h1 _ ht]; simp
      exact ⟨by rw [hf, h1 _ rfl]; simp, fun h => by rw [hf] at h; cases h⟩
  have HFF : Hid (Rng ⟨K, C, Q, (rnum 8 S).1, [], [], [], []⟩ ∧ FitM ⟨K, C, Q, (rnum 8 S).1, [], [], [], []⟩) := by
    refine ⟨⟨by show (-9223372036854775808 : Int) ≤ (K : Int); omega, by show (K : Int) ≤ _; omega, by show (-9223372036854775808 : Int) ≤ (C : Int); omega, by show (C : Int) ≤ _; omega, HQB.out, num8_lt S HBYT.out, fun p hp => by simp at hp, fun p hp => by simp at hp⟩, fitM_of txs_nil ⟨by simp, fun p hp => by simp at hp⟩ ⟨by simp, fun p hp => by simp at hp⟩ ⟨by simp, fun p hp => by simp at hp⟩⟩
  have g1 : ((K : Int) == 1) = false := by simp; omega
  have g3 : ((K : Int) == 3) = false := by simp; omega
  have g4 : ((K : Int) == 4) = false := by simp; omega
  have g7 : ((K : Int) == 7) = false := by simp; omega
  have i1 : ¬ (K : Int) = 1 := by omega
  have i3 : ¬ (K : Int) = 3 := by omega
  have i4 : ¬ (K : Int) = 4 := by omega
  have i7 : ¬ (K : Int) = 7 := by omega
  go_wp2_with fail
  refine (rdU64 HH.out.r).mono ?_
  rintro e w6 ⟨⟨I, rfl, hI, hIb⟩, h6, hk6⟩
  have H6 : Hid _ := HH.out.call h6 hk6
  have H7 : Hid _ := H6.out.store 3 (.int .u64 (I : Nat))
  clear x0 x1 x2 x3 x4 x5 x6 x7
  obtain ⟨x0, x1, x2, x3, x4, x5, x6, x7⟩ := cells8 H6.out.m
  have f3 := frozen_of_blk H6.out.m 3
  rw [← HME.out]
  go_wp2_with fail
  generalize w6.setCell ⟨M, 3, none⟩ (.int .u64 (I : Nat)) = W at H7 ⊢
  clear x0 x1 x2 x3 x4 x5 x6 x7 f3
  have HMM : Hid (IsM W ((K : Nat)) ((C : Nat)) ((Q : Nat)) ((I : Nat)) none 0 0 none 0 0 none 0 0 none 0 0 [] ⟨K, C, Q, (rnum 8 S).1, [], [], [], []⟩) := ⟨rfl, rfl, rfl, hI.out, rfl, rfl, rfl, rfl, own_nil_sl _, own_nil_sl _, own_nil_sl _, ⟨own_nil_sl _, rfl, fun j hj => by simp at hj⟩, HFF.out.1, HFF.out.2⟩
  have HOK : Hid (rok L = (rend0 ((rnum 8 S).2) && may (⟨K, C, Q, (rnum 8 S).1, [], [], [], []⟩))) := HRB.out.1
  have HMQ : Hid (rok L = true → ⟨K, C, Q, (rnum 8 S).1, [], [], [], []⟩ = (rmsg L).1) := HRB.out.2
  (try clear x0 x1 x2 x3 x4 x5 x6 x7)
  obtain ⟨x0, x1, x2, x3, x4, x5, x6, x7⟩ := cells8 H7.out.m
  obtain ⟨y0, y1, y2, y3, y4, y5, y6, y7⟩ := cells8 H7.out.b
  have f0 := frozen_of_blk H7.out.b 0
  have f1 := frozen_of_blk H7.out.b 1
  have f2 := frozen_of_blk H7.out.b 2
  have f3 := frozen_of_blk H7.out.b 3
  have f4 := frozen_of_blk H7.out.b 4
  have f5 := frozen_of_blk H7.out.b 5
  have f6 := frozen_of_blk H7.out.b 6
  have f7 := frozen_of_blk H7.out.b 7
  have hne1 : ¬ M = B := by have := H7.out.lt; omega
  have hne2 : ¬ B = M := by omega
  obtain ⟨X, hX⟩ : ∃ X, rend0 ((rnum 8 S).2) = X := ⟨_, rfl⟩
  rw [hX] at HOK
  obtain ⟨E, hE, hE1, hE0⟩ := rend_of hX
  have HE : Hid (E = rend ((rnum 8 S).2).1 ((rnum 8 S).2).2) := hE
  clear hE hX
  cases X with
  | false =>
    have hEn : ¬ ((E : Nat) : Int) = 0 := by have := hE0 rfl; omega
    have hEb : (((E : Nat) : Int) == 0) = false := by simpa using hEn
    have hEd : decide (((E : Nat) : Int) = 0) = false := by simpa using hEn
    have hEN : ¬ E = 0 := by omega
    have hENb : (E == 0) = false := by simpa using hEN
    have hENd : decide (E = 0) = false := by simpa using hEN
    clear hE0 hE1
    go_region_law ((go_simp; go_at_call 81; refine (rdEnd HE.out (H7.out.r.beside (.inr HLT.out) (Keeps.refl no W).drew (fun i hi => hi.elim))).mono ?_; rintro e w9 ⟨rfl, h9⟩; subst w9))
    all_goals go_wp2_with fail
    all_goals (try simp only [Exit.inBlock, Exit.then])
    all_goals have hs8 := set8 H7.out.b (.int .i64 (K : Nat)) (.int .i64 (C : Nat)) (.int .u64 (Q : Nat)) (.int .u64 (I : Nat)) (.slice none 0 0) (.slice none 0 0) (.slice none 0 0) (.slice none 0 0)
    all_goals unfold set8w at hs8
    all_goals refine bodyPost_ret (results_row2 rfl _ _ B _ rfl (loadMd hs8.1)) rfl ?_
    all_goals exact readD_mk H7.out K0.out (by have := HBE.out; omega) HMM.out (fun j hj => by obtain ⟨x, e, _⟩ := hj; cases e) (fun j hj => by obtain ⟨x, e, _⟩ := hj; cases e) (fun j hj => by obtain ⟨x, e, _⟩ := hj; cases e) (fun j hj => by obtain ⟨x, e, _⟩ := hj; cases e) (fun j hj => by simp at hj) (Keeps.refl no _) hs8.2.drew false (by rw [HOK.out]; rfl) HMQ.out
  | true =>
    have hE2 := hE1 rfl
    subst hE2
    clear hE0 hE1
    obtain ⟨MY, hMY⟩ : ∃ MY, MY = may (⟨K, C, Q, (rnum 8 S).1, [], [], [], []⟩) := ⟨_, rfl⟩
    have HMY : Hid (MY = may (⟨K, C, Q, (rnum 8 S).1, [], [], [], []⟩)) := hMY
    clear hMY
    go_region_held3 (fun w' => w'.cell? ⟨M, 0, none⟩ = some (.int .i64 (K : Nat)) ∧ w'.cell? ⟨M, 1, none⟩ = some (.int .i64 (C : Nat)) ∧ w'.cell? ⟨M, 2, none⟩ = some (.int .u64 (Q : Nat)) ∧ w'.cell? ⟨M, 3, none⟩ = some (.int .u64 (I : Nat)) ∧ w'.cell? ⟨M, 4, none⟩ = some (.slice none 0 0) ∧ w'.cell? ⟨M, 5, none⟩ = some (.slice none 0 0) ∧ w'.cell? ⟨M, 6, none⟩ = some (.slice none 0 0) ∧ w'.cell? ⟨M, 7, none⟩ = some (.slice none 0 0)) (go_keep) (first | (go_at_call 81; refine (rdEnd HE.out (H7.out.r.beside (.inr HLT.out) (Keeps.refl no W).drew (fun i hi => hi.elim))).mono ?_; rintro e w9 ⟨rfl, h9⟩; subst w9; rw [show ((0 : Nat) : Int) = (0 : Int) from rfl]) | (go_at_call 19; refine (refMay_any _ ((K : Nat)) ((C : Nat)) ((Q : Nat)) ((I : Nat)) none 0 0 none 0 0 none 0 0 none 0 0 [] _ (HMM.out.keepsN (Keeps.refl no W).drew)).mono ?_; rw [← HMY.out]; rintro e w10 ⟨rfl, hk10⟩; have K10 : Hid (Keeps no W w10) := (Keeps.refl no W).drew.trans hk10; clear hk10; obtain ⟨x0, x1, x2, x3, x4, x5, x6, x7⟩ := cells8 (K10.out.at H7.out.m (fun h => h)); have HB10 : Hid (_ = _) := K10.out.at H7.out.b (fun h => h); obtain ⟨y0, y1, y2, y3, y4, y5, y6, y7⟩ := cells8 HB10.out; have f0 := frozen_of_blk HB10.out 0; have f1 := frozen_of_blk HB10.out 1; have f2 := frozen_of_blk HB10.out 2; have f3 := frozen_of_blk HB10.out 3; have f4 := frozen_of_blk HB10.out 4; have f5 := frozen_of_blk HB10.out 5; have f6 := frozen_of_blk HB10.out 6; have f7 := frozen_of_blk HB10.out 7))
    all_goals go_wp2_with fail
    all_goals (try simp only [Exit.inBlock, Exit.then])
    all_goals have hs8 := set8 HB10.out (.int .i64 (K : Nat)) (.int .i64 (C : Nat)) (.int .u64 (Q : Nat)) (.int .u64 (I : Nat)) (.slice none 0 0) (.slice none 0 0) (.slice none 0 0) (.slice none 0 0)
    all_goals unfold set8w at hs8
    all_goals refine bodyPost_ret (results_row2 rfl _ _ B _ rfl (loadM hs8.1)) rfl ?_
    all_goals exact readD_mk H7.out K0.out (by have := HBE.out; omega) HMM.out (fun j hj => by obtain ⟨x, e, _⟩ := hj; cases e) (fun j hj => by obtain ⟨x, e, _⟩ := hj; cases e) (fun j hj => by obtain ⟨x, e, _⟩ := hj; cases e) (fun j hj => by obtain ⟨x, e, _⟩ := hj; cases e) (fun j hj => by simp at hj) K10.out hs8.2 MY (by rw [HOK.out, HMY.out]; rfl) HMQ.out

end Go.Proofs.YtjklpcamlppegaaGreat
