/- The document's read: one kind of messages. -/
import Derived.Test.YtjklpcamlppegaaGreatD1
namespace Go.Proofs.YtjklpcamlppegaaGreat
open Go.RowKit Go.Sort Orl Pk
set_option linter.unusedVariables false
set_option linter.unusedSimpArgs false

set_option maxRecDepth 20000 in
set_option maxHeartbeats 8000000 in
theorem readD_else (w0 : World) (ob : Option Addr) (nb cb : Nat) (L : List Nat) (hn : nb = L.length) (hlid : L.length ≤ 140737488355328) (hs : BSl w0 ob cb L) (hG : ¬ (rnum 1 (L, 0)).1 = 1 ∧ ¬ (rnum 1 (L, 0)).1 = 3 ∧ ¬ (rnum 1 (L, 0)).1 = 4 ∧ ¬ (rnum 1 (L, 0)).1 = 7) :
    Calls Tryz.prog 44 #[.slice ob nb cb] w0 (ReadD w0 L) := by
  have k0 : Keeps no w0 (w0.alloc (.cells #[.int .i64 0, .int .i64 0, .int .u64 0, .int .u64 0, .slice none 0 0, .slice none 0 0, .slice none 0 0, .slice none 0 0] 29)) := (Keeps.refl no w0).alloc _
  have HN : Hid (nb = L.length) := hn
  have HSL : Hid (BSl (w0.alloc (.cells #[.int .i64 0, .int .i64 0, .int .u64 0, .int .u64 0, .slice none 0 0, .slice none 0 0, .slice none 0 0, .slice none 0 0] 29)) ob cb L) := hs.keeps k0 (fun _ _ h => h)
  clear hn hs
  go_enter Tryz.func44, Tryz.ntmps44
  go_wp2_with fail
  refine (refNewReader_any _ ob nb cb L HN.out HSL.out hlid).mono ?_
  rintro e w ⟨a, o, c, rfl, hR, hnew, hk1⟩
  have hk1' : Keeps no (w0.alloc (.cells #[.int .i64 0, .int .i64 0, .int .u64 0, .int .u64 0, .slice none 0 0, .slice none 0 0, .slice none 0 0, .slice none 0 0] 29)) w := hk1
  have K0 : Hid (Keeps no w0 w) := k0.trans hk1'
  have hB0 : w.heap[w0.heap.size]? = some (.cells #[.int .i64 0, .int .i64 0, .int .u64 0, .int .u64 0, .slice none 0 0, .slice none 0 0, .slice none 0 0, .slice none 0 0] 29 (0, 0)) := hk1'.at (blk_new w0 _) (fun h => h)
  have HLT : Hid (a < w.heap.size ∧ ∀ k, inO o k → k < w.heap.size) := ⟨lt_of_block hR.blk, hR.live⟩
  have haw : a < w.heap.size := HLT.out.1
  have hBa : w0.heap.size < a := by have := hnew a (.inl rfl); simp at this; omega
  have h0 := RStep.start hR
  have HLB : Hid (∀ c ∈ L, c < 256) := hR.sl.row.1
  clear hR hnew hk1 hk1' k0
  go_wp2_with fail
  refine (rdU8 h0).mono ?_
  rintro e w1 ⟨⟨K, rfl, hK, hKb⟩, h1, hk1⟩
  have hGK : ¬ K = 1 ∧ ¬ K = 3 ∧ ¬ K = 4 ∧ ¬ K = 7 := by rw [hK.out]; exact hG
  go_wp2_with fail
  refine (rdU8 h1).mono ?_
  rintro e w2 ⟨⟨C, rfl, hC, hCb⟩, h2, hk2⟩
  go_wp2_with fail
  refine (rdU64 h2).mono ?_
  rintro e w3 ⟨⟨Q, rfl, hQ, hQb⟩, h3, hk3⟩
  have HS : Hid (rmsg L = rfield K C Q (rnum 8 (rnum 1 (rnum 1 (L, 0)).2).2).2) := by
    show _ = _
    unfold rmsg; rw [hK.out, hC.out, hQ.out]
  have HFIT := rfield_fit K C Q (rnum 8 (rnum 1 (rnum 1 (L, 0)).2).2).2 h3.byt (by omega) hCb hQb
  have HBYT : Hid (Byt (rnum 8 (rnum 1 (rnum 1 (L, 0)).2).2).2) := h3.byt
  generalize (rnum 8 (rnum 1 (rnum 1 (L, 0)).2).2).2 = S at h3 HS HFIT HBYT
  have HF : Hid (Rng (rfield K C Q S).1 ∧ FitM (rfield K C Q S).1) := HFIT
  have HQB : Hid (Q < 18446744073709551616) := hQb
  have hk13 := (hk1.trans hk2).trans hk3
  have hB3 : w3.heap[w0.heap.size]? = some (.cells #[.int .i64 0, .int .i64 0, .int .u64 0, .int .u64 0, .slice none 0 0, .slice none 0 0, .slice none 0 0, .slice none 0 0] 29 (0, 0)) := hk13.at hB0 (by unfold eqA; omega)
  have HH : Hid (RdD w a w0.heap.size w3.heap.size o #[.int .i64 (K : Nat), .int .i64 (C : Nat), .int .u64 (Q : Nat), .int .u64 0, .slice none 0 0, .slice none 0 0, .slice none 0 0, .slice none 0 0] S (w3.alloc (.cells #[.int .i64 (K : Nat), .int .i64 (C : Nat), .int .u64 (Q : Nat), .int .u64 0, .slice none 0 0, .slice none 0 0, .slice none 0 0, .slice none 0 0] 29))) :=
    ⟨blk_new w3 _, blk_alloc hB3 _, h3.beside (.inr HLT.out) ((Keeps.refl no w3).alloc _) (fun i hi => hi.elim), hk13.alloc _, HLT.out, hBa, hk13.size⟩
  obtain ⟨M, hM⟩ : ∃ M, M = w3.heap.size := ⟨_, rfl⟩
  obtain ⟨B, hB⟩ : ∃ B, B = w0.heap.size := ⟨_, rfl⟩
  have HBE : Hid (B = w0.heap.size) := hB
  rw [← hM, ← hB] at HH
  rw [← hB]
  have HME : Hid (M = w3.heap.size) := hM
  clear hB hk13 hk1 hk2 hk3 h0 h1 h2 h3 HFIT hK hC hQ hB0 hB3 HLB hM hBa
  obtain ⟨x0, x1, x2, x3, x4, x5, x6, x7⟩ := cells8 HH.out.m
  rw [HME.out] at x0 x1 x2 x3 x4 x5 x6 x7
  have HRB : Hid (rok L = (rend0 (rnum 8 S).2 && may ⟨K, C, Q, (rnum 8 S).1, [], [], [], []⟩) ∧ (rok L = true → (⟨K, C, Q, (rnum 8 S).1, [], [], [], []⟩ : Msg) = (rmsg L).1)) := by
    by_cases hp : plainK K
    · have e : rmsg L = (⟨K, C, Q, (rnum 8 S).1, [], [], [], []⟩, (rnum 8 S).2) := by
        rw [HS.out]; unfold rfield
        rw [if_neg (by omega), if_pos hp]
      exact ⟨by unfold rok; rw [e], fun _ => by rw [e]⟩
    · have h1 : ∀ m : Msg, m.kind = K → may m = false := by
        intro m hm
        have : mayF m = false := by
          unfold mayF; rw [hm]
          rw [if_neg (by omega), if_neg hp, if_neg (by omega), if_neg (by omega), if_neg (by omega)]
        unfold may; rw [this]; simp
      have ht : (rmsg L).1.kind = K := by rw [HS.out]; exact (rfield_top K C Q S).1
      have hf : rok L = false := by unfold rok; rw [h1 _ ht]; simp
      exact ⟨by rw [hf, h1 _ rfl]; simp, fun h => by rw [hf] at h; cases h⟩
  have HFF : Hid (Rng ⟨K, C, Q, (rnum 8 S).1, [], [], [], []⟩ ∧ FitM ⟨K, C, Q, (rnum 8 S).1, [], [], [], []⟩) := by
    refine ⟨⟨by show (-9223372036854775808 : Int) ≤ (K : Int); omega, by show (K : Int) ≤ _; omega, by show (-9223372036854775808 : Int) ≤ (C : Int); omega, by show (C : Int) ≤ _; omega, HQB.out, num8_lt S HBYT.out, fun p hp => by simp at hp, fun p hp => by simp at hp⟩, fitM_of txs_nil ⟨by simp, fun p hp => by simp at hp⟩ ⟨by simp, fun p hp => by simp at hp⟩ ⟨by simp, fun p hp => by simp at hp⟩⟩
  have g1 : ((K : Int) == 1) = false := by simp; omega
  have g3 : ((K : Int) == 3) = false := by simp; omega
  have g4 : ((K : Int) == 4) = false := by simp; omega
  have g7 : ((K : Int) == 7) = false := by simp; omega
  have i1 : ¬ (K : Int) = 1 := by omega
  have i3 : ¬ (K : Int) = 3 := by omega
  have i4 : ¬ (K : Int) = 4 := by omega
  have i7 : ¬ (K : Int) = 7 := by omega
  go_wp2_with fail
  refine (rdU64 HH.out.r).mono ?_
  rintro e w6 ⟨⟨I, rfl, hI, hIb⟩, h6, hk6⟩
  have H6 : Hid _ := HH.out.call h6 hk6
  have H7 : Hid _ := H6.out.store 3 (.int .u64 (I : Nat))
  clear x0 x1 x2 x3 x4 x5 x6 x7
  obtain ⟨x0, x1, x2, x3, x4, x5, x6, x7⟩ := cells8 H6.out.m
  have f3 := frozen_of_blk H6.out.m 3
  rw [← HME.out]
  go_wp2_with fail
  generalize w6.setCell ⟨M, 3, none⟩ (.int .u64 (I : Nat)) = W at H7 ⊢
  clear x0 x1 x2 x3 x4 x5 x6 x7 f3
  have HMM : Hid (IsM W ((K : Nat)) ((C : Nat)) ((Q : Nat)) ((I : Nat)) none 0 0 none 0 0 none 0 0 none 0 0 [] ⟨K, C, Q, (rnum 8 S).1, [], [], [], []⟩) := ⟨rfl, rfl, rfl, hI.out, rfl, rfl, rfl, rfl, own_nil_sl _, own_nil_sl _, own_nil_sl _, ⟨own_nil_sl _, rfl, fun j hj => by simp at hj⟩, HFF.out.1, HFF.out.2⟩
  have HOK : Hid (rok L = (rend0 ((rnum 8 S).2) && may (⟨K, C, Q, (rnum 8 S).1, [], [], [], []⟩))) := HRB.out.1
  have HMQ : Hid (rok L = true → ⟨K, C, Q, (rnum 8 S).1, [], [], [], []⟩ = (rmsg L).1) := HRB.out.2
  (try clear x0 x1 x2 x3 x4 x5 x6 x7)
  obtain ⟨x0, x1, x2, x3, x4, x5, x6, x7⟩ := cells8 H7.out.m
  obtain ⟨y0, y1, y2, y3, y4, y5, y6, y7⟩ := cells8 H7.out.b
  have f0 := frozen_of_blk H7.out.b 0
  have f1 := frozen_of_blk H7.out.b 1
  have f2 := frozen_of_blk H7.out.b 2
  have f3 := frozen_of_blk H7.out.b 3
  have f4 := frozen_of_blk H7.out.b 4
  have f5 := frozen_of_blk H7.out.b 5
  have f6 := frozen_of_blk H7.out.b 6
  have f7 := frozen_of_blk H7.out.b 7
  have hne1 : ¬ M = B := by have := H7.out.lt; omega
  have hne2 : ¬ B = M := by omega
  obtain ⟨X, hX⟩ : ∃ X, rend0 ((rnum 8 S).2) = X := ⟨_, rfl⟩
  rw [hX] at HOK
  obtain ⟨E, hE, hE1, hE0⟩ := rend_of hX
  have HE : Hid (E = rend ((rnum 8 S).2).1 ((rnum 8 S).2).2) := hE
  clear hE hX
  cases X with
  | false =>
    have hEn : ¬ ((E : Nat) : Int) = 0 := by have := hE0 rfl; omega
    have hEb : (((E : Nat) : Int) == 0) = false := by simpa using hEn
    have hEd : decide (((E : Nat) : Int) = 0) = false := by simpa using hEn
    have hEN : ¬ E = 0 := by omega
    have hENb : (E == 0) = false := by simpa using hEN
    have hENd : decide (E = 0) = false := by simpa using hEN
    clear hE0 hE1
    go_region_law ((go_simp; go_at_call 81; refine (rdEnd HE.out (H7.out.r.beside (.inr HLT.out) (Keeps.refl no W).drew (fun i hi => hi.elim))).mono ?_; rintro e w9 ⟨rfl, h9⟩; subst w9))
    all_goals go_wp2_with fail
    all_goals (try simp only [Exit.inBlock, Exit.then])
    all_goals have hs8 := set8 H7.out.b (.int .i64 (K : Nat)) (.int .i64 (C : Nat)) (.int .u64 (Q : Nat)) (.int .u64 (I : Nat)) (.slice none 0 0) (.slice none 0 0) (.slice none 0 0) (.slice none 0 0)
    all_goals unfold set8w at hs8
    all_goals refine bodyPost_ret (results_row2 rfl _ _ B _ rfl (loadMd hs8.1)) rfl ?_
    all_goals exact readD_mk H7.out K0.out (by have := HBE.out; omega) HMM.out (fun j hj => by obtain ⟨x, e, _⟩ := hj; cases e) (fun j hj => by obtain ⟨x, e, _⟩ := hj; cases e) (fun j hj => by obtain ⟨x, e, _⟩ := hj; cases e) (fun j hj => by obtain ⟨x, e, _⟩ := hj; cases e) (fun j hj => by simp at hj) (Keeps.refl no _) hs8.2.drew false (by rw [HOK.out]; rfl) HMQ.out
  | true =>
    have hE2 := hE1 rfl
    subst hE2
    clear hE0 hE1
    obtain ⟨MY, hMY⟩ : ∃ MY, MY = may (⟨K, C, Q, (rnum 8 S).1, [], [], [], []⟩) := ⟨_, rfl⟩
    have HMY : Hid (MY = may (⟨K, C, Q, (rnum 8 S).1, [], [], [], []⟩)) := hMY
    clear hMY
    go_region_held3 (fun w' => w'.cell? ⟨M, 0, none⟩ = some (.int .i64 (K : Nat)) ∧ w'.cell? ⟨M, 1, none⟩ = some (.int .i64 (C : Nat)) ∧ w'.cell? ⟨M, 2, none⟩ = some (.int .u64 (Q : Nat)) ∧ w'.cell? ⟨M, 3, none⟩ = some (.int .u64 (I : Nat)) ∧ w'.cell? ⟨M, 4, none⟩ = some (.slice none 0 0) ∧ w'.cell? ⟨M, 5, none⟩ = some (.slice none 0 0) ∧ w'.cell? ⟨M, 6, none⟩ = some (.slice none 0 0) ∧ w'.cell? ⟨M, 7, none⟩ = some (.slice none 0 0)) (go_keep) (first | (go_at_call 81; refine (rdEnd HE.out (H7.out.r.beside (.inr HLT.out) (Keeps.refl no W).drew (fun i hi => hi.elim))).mono ?_; rintro e w9 ⟨rfl, h9⟩; subst w9; rw [show ((0 : Nat) : Int) = (0 : Int) from rfl]) | (go_at_call 19; refine (refMay_any _ ((K : Nat)) ((C : Nat)) ((Q : Nat)) ((I : Nat)) none 0 0 none 0 0 none 0 0 none 0 0 [] _ (HMM.out.keepsN (Keeps.refl no W).drew)).mono ?_; rw [← HMY.out]; rintro e w10 ⟨rfl, hk10⟩; have K10 : Hid (Keeps no W w10) := (Keeps.refl no W).drew.trans hk10; clear hk10; obtain ⟨x0, x1, x2, x3, x4, x5, x6, x7⟩ := cells8 (K10.out.at H7.out.m (fun h => h)); have HB10 : Hid (_ = _) := K10.out.at H7.out.b (fun h => h); obtain ⟨y0, y1, y2, y3, y4, y5, y6, y7⟩ := cells8 HB10.out; have f0 := frozen_of_blk HB10.out 0; have f1 := frozen_of_blk HB10.out 1; have f2 := frozen_of_blk HB10.out 2; have f3 := frozen_of_blk HB10.out 3; have f4 := frozen_of_blk HB10.out 4; have f5 := frozen_of_blk HB10.out 5; have f6 := frozen_of_blk HB10.out 6; have f7 := frozen_of_blk HB10.out 7))
    all_goals go_wp2_with fail
    all_goals (try simp only [Exit.inBlock, Exit.then])
    all_goals have hs8 := set8 HB10.out (.int .i64 (K : Nat)) (.int .i64 (C : Nat)) (.int .u64 (Q : Nat)) (.int .u64 (I : Nat)) (.slice none 0 0) (.slice none 0 0) (.slice none 0 0) (.slice none 0 0)
    all_goals unfold set8w at hs8
    all_goals refine bodyPost_ret (results_row2 rfl _ _ B _ rfl (loadM hs8.1)) rfl ?_
    all_goals exact readD_mk H7.out K0.out (by have := HBE.out; omega) HMM.out (fun j hj => by obtain ⟨x, e, _⟩ := hj; cases e) (fun j hj => by obtain ⟨x, e, _⟩ := hj; cases e) (fun j hj => by obtain ⟨x, e, _⟩ := hj; cases e) (fun j hj => by obtain ⟨x, e, _⟩ := hj; cases e) (fun j hj => by simp at hj) K10.out hs8.2 MY (by rw [HOK.out, HMY.out]; rfl) HMQ.out

end Go.Proofs.YtjklpcamlppegaaGreat
