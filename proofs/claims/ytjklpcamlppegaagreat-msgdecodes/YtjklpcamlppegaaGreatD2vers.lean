/- The document's read: one kind of messages. -/
import Derived.Test.YtjklpcamlppegaaGreatD1
namespace Go.Proofs.YtjklpcamlppegaaGreat
open Go.RowKit Go.Sort Orl Pk
set_option linter.unusedVariables false
set_option linter.unusedSimpArgs false

set_option maxRecDepth 20000 in
set_option maxHeartbeats 8000000 in
theorem readD_vers (w0 : World) (ob : Option Addr) (nb cb : Nat) (L : List Nat) (hn : nb = L.length) (hlid : L.length ≤ 140737488355328) (hs : BSl w0 ob cb L) (hG : (rnum 1 (L, 0)).1 = 7) :
    Calls Tryz.prog 44 #[.slice ob nb cb] w0 (ReadD w0 L) := by
  have k0 : Keeps no w0 (w0.alloc (.cells #[.int .i64 0, .int .i64 0, .int .u64 0, .int .u64 0, .slice none 0 0, .slice none 0 0, .slice none 0 0, .slice none 0 0] 29)) := (Keeps.refl no w0).alloc _
  have HN : Hid (nb = L.length) := hn
  have HSL : Hid (BSl (w0.alloc (.cells #[.int .i64 0, .int .i64 0, .int .u64 0, .int .u64 0, .slice none 0 0, .slice none 0 0, .slice none 0 0, .slice none 0 0] 29)) ob cb L) := hs.keeps k0 (fun _ _ h => h)
  clear hn hs
  go_enter Tryz.func44, Tryz.ntmps44
  go_wp2_with fail
  refine (refNewReader_any _ ob nb cb L HN.out HSL.out hlid).mono ?_
  rintro e w ⟨a, o, c, rfl, hR, hnew, hk1⟩
  have hk1' : Keeps no (w0.alloc (.cells #[.int .i64 0, .int .i64 0, .int .u64 0, .int .u64 0, .slice none 0 0, .slice none 0 0, .slice none 0 0, .slice none 0 0] 29)) w := hk1
  have K0 : Hid (Keeps no w0 w) := k0.trans hk1'
  have hB0 : w.heap[w0.heap.size]? = some (.cells #[.int .i64 0, .int .i64 0, .int .u64 0, .int .u64 0, .slice none 0 0, .slice none 0 0, .slice none 0 0, .slice none 0 0] 29 (0, 0)) := hk1'.at (blk_new w0 _) (fun h => h)
  have HLT : Hid (a < w.heap.size ∧ ∀ k, inO o k → k < w.heap.size) := ⟨lt_of_block hR.blk, hR.live⟩
  have haw : a < w.heap.size := HLT.out.1
  have hBa : w0.heap.size < a := by have := hnew a (.inl rfl); simp at this; omega
  have h0 := RStep.start hR
  have HLB : Hid (∀ c ∈ L, c < 256) := hR.sl.row.1
  clear hR hnew hk1 hk1' k0
  go_wp2_with fail
  refine (rdU8 h0).mono ?_
  rintro e w1 ⟨⟨K, rfl, hK, hKb⟩, h1, hk1⟩
  obtain rfl : K = 7 := hK.out.trans hG
  rw [show ((7 : Nat) : Int) = (7 : Int) from rfl]
  go_wp2_with fail
  refine (rdU8 h1).mono ?_
  rintro e w2 ⟨⟨C, rfl, hC, hCb⟩, h2, hk2⟩
  go_wp2_with fail
  refine (rdU64 h2).mono ?_
  rintro e w3 ⟨⟨Q, rfl, hQ, hQb⟩, h3, hk3⟩
  have HS : Hid (rmsg L = rfield 7 C Q (rnum 8 (rnum 1 (rnum 1 (L, 0)).2).2).2) := by
    show _ = _
    unfold rmsg; rw [hG, hC.out, hQ.out]
  have HFIT := rfield_fit 7 C Q (rnum 8 (rnum 1 (rnum 1 (L, 0)).2).2).2 h3.byt (by omega) hCb hQb
  have HBYT : Hid (Byt (rnum 8 (rnum 1 (rnum 1 (L, 0)).2).2).2) := h3.byt
  generalize (rnum 8 (rnum 1 (rnum 1 (L, 0)).2).2).2 = S at h3 HS HFIT HBYT
  have HF : Hid (Rng (rfield 7 C Q S).1 ∧ FitM (rfield 7 C Q S).1) := HFIT
  have HQB : Hid (Q < 18446744073709551616) := hQb
  have hk13 := (hk1.trans hk2).trans hk3
  have hB3 : w3.heap[w0.heap.size]? = some (.cells #[.int .i64 0, .int .i64 0, .int .u64 0, .int .u64 0, .slice none 0 0, .slice none 0 0, .slice none 0 0, .slice none 0 0] 29 (0, 0)) := hk13.at hB0 (by unfold eqA; omega)
  have HH : Hid (RdD w a w0.heap.size w3.heap.size o #[.int .i64 7, .int .i64 (C : Nat), .int .u64 (Q : Nat), .int .u64 0, .slice none 0 0, .slice none 0 0, .slice none 0 0, .slice none 0 0] S (w3.alloc (.cells #[.int .i64 7, .int .i64 (C : Nat), .int .u64 (Q : Nat), .int .u64 0, .slice none 0 0, .slice none 0 0, .slice none 0 0, .slice none 0 0] 29))) :=
    ⟨blk_new w3 _, blk_alloc hB3 _, h3.beside (.inr HLT.out) ((Keeps.refl no w3).alloc _) (fun i hi => hi.elim), hk13.alloc _, HLT.out, hBa, hk13.size⟩
  obtain ⟨M, hM⟩ : ∃ M, M = w3.heap.size := ⟨_, rfl⟩
  obtain ⟨B, hB⟩ : ∃ B, B = w0.heap.size := ⟨_, rfl⟩
  have HBE : Hid (B = w0.heap.size) := hB
  rw [← hM, ← hB] at HH
  rw [← hB]
  have HME : Hid (M = w3.heap.size) := hM
  clear hB hk13 hk1 hk2 hk3 h0 h1 h2 h3 HFIT hK hC hQ hB0 hB3 HLB hM hBa
  obtain ⟨x0, x1, x2, x3, x4, x5, x6, x7⟩ := cells8 HH.out.m
  rw [HME.out] at x0 x1 x2 x3 x4 x5 x6 x7
  have HR : Hid (rmsg L = (⟨7, C, Q, 0, [], [], [], [(rver S).1]⟩, (rver S).2)) := by
    show _ = _
    rw [HS.out]; unfold rfield
    rw [if_neg (by omega), if_neg (by unfold plainK; omega), if_neg (by omega), if_neg (by omega), if_pos (by omega)]; rfl
  rw [← HS.out, HR.out] at HF
  go_wp2_with fail
  refine (rdText HH.out.r).mono ?_
  rintro e w6 ⟨⟨s1, rfl, hs1⟩, h6, hk6⟩
  have H6 : Hid _ := HH.out.call h6 hk6
  rw [← HME.out]
  clear x0 x1 x2 x3 x4 x5 x6 x7
  obtain ⟨x0, x1, x2, x3, x4, x5, x6, x7⟩ := cells8 H6.out.m
  go_wp2_with fail
  refine (rdU64 H6.out.r).mono ?_
  rintro e w7 ⟨⟨id, rfl, hid, hidb⟩, h7, hk7⟩
  have H7 : Hid _ := H6.out.call h7 hk7
  have hM7 := H7.out.size
  clear x0 x1 x2 x3 x4 x5 x6 x7 h6 hk6 h7 hk7
  have hq1 : ¬ M = w7.heap.size := by omega
  have hq2 : ¬ w7.heap.size = M := by omega
  have hq3 : ¬ M = w7.heap.size + 1 := by omega
  have hq4 : ¬ w7.heap.size + 1 = M := by omega
  by_cases hi : id = 0
  · subst hi
    rw [show ((0 : Nat) : Int) = (0 : Int) from rfl]
    have H9 : Hid _ := (H7.out.more ((Keeps.refl no _).alloc (.cells #[.string s1, .int .u64 0, .string ⟨#[]⟩, .slice none 0 0] 46))).more ((Keeps.refl no _).alloc (.cells #[.string s1, .int .u64 0, .string ⟨#[]⟩, .slice none 0 0] 46))
    have H10 : Hid _ := ((H7.out.store 7 (.slice (some ⟨w7.heap.size + 1, 0, none⟩) 1 1)).more ((Keeps.refl no _).alloc (.cells #[.string s1, .int .u64 0, .string ⟨#[]⟩, .slice none 0 0] 46))).more ((Keeps.refl no _).alloc (.cells #[.string s1, .int .u64 0, .string ⟨#[]⟩, .slice none 0 0] 46))
    have HVB : Hid ((((w7.setCell ⟨M, 7, none⟩ (.slice (some ⟨w7.heap.size + 1, 0, none⟩) 1 1)).alloc (.cells #[.string s1, .int .u64 0, .string ⟨#[]⟩, .slice none 0 0] 46)).alloc (.cells #[.string s1, .int .u64 0, .string ⟨#[]⟩, .slice none 0 0] 46)).heap[w7.heap.size + 1]? = some (.cells #[.string s1, .int .u64 0, .string ⟨#[]⟩, .slice none 0 0] 46 (0, 0))) := by
      have e : ((w7.setCell ⟨M, 7, none⟩ (.slice (some ⟨w7.heap.size + 1, 0, none⟩) 1 1)).alloc (.cells #[.string s1, .int .u64 0, .string ⟨#[]⟩, .slice none 0 0] 46)).heap.size = w7.heap.size + 1 := by simp
      have := blk_new ((w7.setCell ⟨M, 7, none⟩ (.slice (some ⟨w7.heap.size + 1, 0, none⟩) 1 1)).alloc (.cells #[.string s1, .int .u64 0, .string ⟨#[]⟩, .slice none 0 0] 46)) (.cells #[.string s1, .int .u64 0, .string ⟨#[]⟩, .slice none 0 0] 46)
      rw [e] at this
      exact this
    obtain ⟨x0, x1, x2, x3, x4, x5, x6, x7⟩ := cells8 H7.out.m
    obtain ⟨u0, u1, u2, u3, u4, u5, u6, u7⟩ := cells8 H9.out.m
    have f7 := frozen_of_blk H9.out.m 7
    go_wp2_with fail
    generalize ((w7.setCell ⟨M, 7, none⟩ (.slice (some ⟨w7.heap.size + 1, 0, none⟩) 1 1)).alloc (.cells #[.string s1, .int .u64 0, .string ⟨#[]⟩, .slice none 0 0] 46)).alloc (.cells #[.string s1, .int .u64 0, .string ⟨#[]⟩, .slice none 0 0] 46) = W at H10 HVB ⊢
    clear x0 x1 x2 x3 x4 x5 x6 x7 u0 u1 u2 u3 u4 u5 u6 u7 f7
    have hv := rver_0 (st := S) hid.out.symm
    have HV : Hid (rver S = (⟨text (rtext 65535 S).1, 0, e0, []⟩, (rnum 8 (rtext 65535 S).2).2)) := hv
    clear hv
    obtain ⟨G, hG7⟩ : ∃ G, G = w7.heap.size + 1 := ⟨_, rfl⟩
    have HGE : Hid (G = w7.heap.size + 1) := hG7
    rw [← hG7] at H10 HVB ⊢
    have hGM : M < G := by omega
    clear hG7 hq1 hq2 hq3 hq4
    have HMM : Hid (IsM W (7) ((C : Nat)) ((Q : Nat)) (0) none 0 0 none 0 0 none 0 0 (some ⟨G, 0, none⟩) 1 1 [⟨s1, 0, ⟨#[]⟩, none, 0, 0⟩] ⟨7, C, Q, 0, [], [], [], [(rver S).1]⟩) := ⟨rfl, rfl, rfl, rfl, rfl, rfl, rfl, rfl, own_nil_sl _, own_nil_sl _, own_nil_sl _, ⟨own_oneV HVB.out, rfl, fun j hj => by obtain rfl : j = 0 := (by simpa using hj); exact ⟨(by show s1 = (rver S).1.key; rw [HV.out]; exact hs1.out), (by show 0 = (rver S).1.id; rw [HV.out]), (by show _ = (rver S).1.val; rw [HV.out]; rfl), (by show 0 = (rver S).1.keys.length; rw [HV.out]; rfl), (by show Sl TE W none 0 (rver S).1.keys; rw [HV.out]; exact own_nil_sl _)⟩⟩, HF.out.1, HF.out.2⟩
    have HOK : Hid (rok L = (rend0 ((rnum 8 (rtext 65535 S).2).2) && may (⟨7, C, Q, 0, [], [], [], [(rver S).1]⟩))) := by show _ = _; unfold rok; rw [HR.out, HV.out]
    have HMQ : Hid (rok L = true → ⟨7, C, Q, 0, [], [], [], [(rver S).1]⟩ = (rmsg L).1) := fun _ => by rw [HR.out]
    (try clear x0 x1 x2 x3 x4 x5 x6 x7)
    obtain ⟨x0, x1, x2, x3, x4, x5, x6, x7⟩ := cells8 H10.out.m
    obtain ⟨y0, y1, y2, y3, y4, y5, y6, y7⟩ := cells8 H10.out.b
    have f0 := frozen_of_blk H10.out.b 0
    have f1 := frozen_of_blk H10.out.b 1
    have f2 := frozen_of_blk H10.out.b 2
    have f3 := frozen_of_blk H10.out.b 3
    have f4 := frozen_of_blk H10.out.b 4
    have f5 := frozen_of_blk H10.out.b 5
    have f6 := frozen_of_blk H10.out.b 6
    have f7 := frozen_of_blk H10.out.b 7
    have hne1 : ¬ M = B := by have := H10.out.lt; omega
    have hne2 : ¬ B = M := by omega
    obtain ⟨X, hX⟩ : ∃ X, rend0 ((rnum 8 (rtext 65535 S).2).2) = X := ⟨_, rfl⟩
    rw [hX] at HOK
    obtain ⟨E, hE, hE1, hE0⟩ := rend_of hX
    have HE : Hid (E = rend ((rnum 8 (rtext 65535 S).2).2).1 ((rnum 8 (rtext 65535 S).2).2).2) := hE
    clear hE hX
    cases X with
    | false =>
      have hEn : ¬ ((E : Nat) : Int) = 0 := by have := hE0 rfl; omega
      have hEb : (((E : Nat) : Int) == 0) = false := by simpa using hEn
      have hEd : decide (((E : Nat) : Int) = 0) = false := by simpa using hEn
      have hEN : ¬ E = 0 := by omega
      have hENb : (E == 0) = false := by simpa using hEN
      have hENd : decide (E = 0) = false := by simpa using hEN
      clear hE0 hE1
      go_region_law ((go_simp; go_at_call 81; refine (rdEnd HE.out (H10.out.r.beside (.inr HLT.out) (Keeps.refl no W).drew (fun i hi => hi.elim))).mono ?_; rintro e w9 ⟨rfl, h9⟩; subst w9))
      all_goals go_wp2_with fail
      all_goals (try simp only [Exit.inBlock, Exit.then])
      all_goals have hs8 := set8 H10.out.b (.int .i64 7) (.int .i64 (C : Nat)) (.int .u64 (Q : Nat)) (.int .u64 0) (.slice none 0 0) (.slice none 0 0) (.slice none 0 0) (.slice (some ⟨G, 0, none⟩) 1 1)
      all_goals unfold set8w at hs8
      all_goals refine bodyPost_ret (results_row2 rfl _ _ B _ rfl (loadMd hs8.1)) rfl ?_
      all_goals exact readD_mk H10.out K0.out (by have := HBE.out; omega) HMM.out (fun j hj => by obtain ⟨x, e, _⟩ := hj; cases e) (fun j hj => by obtain ⟨x, e, _⟩ := hj; cases e) (fun j hj => by obtain ⟨x, e, _⟩ := hj; cases e) (fun j hj => by obtain ⟨x, e, rfl⟩ := hj; cases e; exact hGM) (fun j hj i hi => by obtain rfl : j = 0 := (by simpa using hj); obtain ⟨x, e, _⟩ := hi; cases e) (Keeps.refl no _) hs8.2.drew false (by rw [HOK.out]; rfl) HMQ.out
    | true =>
      have hE2 := hE1 rfl
      subst hE2
      clear hE0 hE1
      obtain ⟨MY, hMY⟩ : ∃ MY, MY = may (⟨7, C, Q, 0, [], [], [], [(rver S).1]⟩) := ⟨_, rfl⟩
      have HMY : Hid (MY = may (⟨7, C, Q, 0, [], [], [], [(rver S).1]⟩)) := hMY
      clear hMY
      go_region_held3 (fun w' => w'.cell? ⟨M, 0, none⟩ = some (.int .i64 7) ∧ w'.cell? ⟨M, 1, none⟩ = some (.int .i64 (C : Nat)) ∧ w'.cell? ⟨M, 2, none⟩ = some (.int .u64 (Q : Nat)) ∧ w'.cell? ⟨M, 3, none⟩ = some (.int .u64 0) ∧ w'.cell? ⟨M, 4, none⟩ = some (.slice none 0 0) ∧ w'.cell? ⟨M, 5, none⟩ = some (.slice none 0 0) ∧ w'.cell? ⟨M, 6, none⟩ = some (.slice none 0 0) ∧ w'.cell? ⟨M, 7, none⟩ = some (.slice (some ⟨G, 0, none⟩) 1 1)) (go_keep) (first | (go_at_call 81; refine (rdEnd HE.out (H10.out.r.beside (.inr HLT.out) (Keeps.refl no W).drew (fun i hi => hi.elim))).mono ?_; rintro e w9 ⟨rfl, h9⟩; subst w9; rw [show ((0 : Nat) : Int) = (0 : Int) from rfl]) | (go_at_call 19; refine (refMay_any _ (7) ((C : Nat)) ((Q : Nat)) (0) none 0 0 none 0 0 none 0 0 (some ⟨G, 0, none⟩) 1 1 [⟨s1, 0, ⟨#[]⟩, none, 0, 0⟩] _ (HMM.out.keepsN (Keeps.refl no W).drew)).mono ?_; rw [← HMY.out]; rintro e w10 ⟨rfl, hk10⟩; have K10 : Hid (Keeps no W w10) := (Keeps.refl no W).drew.trans hk10; clear hk10; obtain ⟨x0, x1, x2, x3, x4, x5, x6, x7⟩ := cells8 (K10.out.at H10.out.m (fun h => h)); have HB10 : Hid (_ = _) := K10.out.at H10.out.b (fun h => h); obtain ⟨y0, y1, y2, y3, y4, y5, y6, y7⟩ := cells8 HB10.out; have f0 := frozen_of_blk HB10.out 0; have f1 := frozen_of_blk HB10.out 1; have f2 := frozen_of_blk HB10.out 2; have f3 := frozen_of_blk HB10.out 3; have f4 := frozen_of_blk HB10.out 4; have f5 := frozen_of_blk HB10.out 5; have f6 := frozen_of_blk HB10.out 6; have f7 := frozen_of_blk HB10.out 7))
      all_goals go_wp2_with fail
      all_goals (try simp only [Exit.inBlock, Exit.then])
      all_goals have hs8 := set8 HB10.out (.int .i64 7) (.int .i64 (C : Nat)) (.int .u64 (Q : Nat)) (.int .u64 0) (.slice none 0 0) (.slice none 0 0) (.slice none 0 0) (.slice (some ⟨G, 0, none⟩) 1 1)
      all_goals unfold set8w at hs8
      all_goals refine bodyPost_ret (results_row2 rfl _ _ B _ rfl (loadM hs8.1)) rfl ?_
      all_goals exact readD_mk H10.out K0.out (by have := HBE.out; omega) HMM.out (fun j hj => by obtain ⟨x, e, _⟩ := hj; cases e) (fun j hj => by obtain ⟨x, e, _⟩ := hj; cases e) (fun j hj => by obtain ⟨x, e, _⟩ := hj; cases e) (fun j hj => by obtain ⟨x, e, rfl⟩ := hj; cases e; exact hGM) (fun j hj i hi => by obtain rfl : j = 0 := (by simpa using hj); obtain ⟨x, e, _⟩ := hi; cases e) K10.out hs8.2 MY (by rw [HOK.out, HMY.out]; rfl) HMQ.out

  · have hi2 : ((id : Int) == 0) = false := by simp; omega
    have hi3 : ¬ ((id : Int) = 0) := by omega
    have H8 : Hid _ := H7.out.more ((Keeps.refl no _).alloc (.cells #[.string s1, .int .u64 (id : Nat), .string ⟨#[]⟩, .slice none 0 0] 46))
    go_wp2_with fail
    refine (rdText H8.out.r).mono ?_
    rintro e w9 ⟨⟨s2, rfl, hs2⟩, h9, hk9⟩
    have H9 : Hid _ := H8.out.call h9 hk9
    have haV : ¬ eqA a w7.heap.size := by unfold eqA; have := H7.out.lt; omega
    have hV9 : w9.heap[w7.heap.size]? = some (.cells #[.string s1, .int .u64 (id : Nat), .string ⟨#[]⟩, .slice none 0 0] 46 (0, 0)) := hk9.at (blk_new w7 _) haV
    obtain ⟨V, hVE⟩ : ∃ V, V = w7.heap.size := ⟨_, rfl⟩
    have HVE : Hid (V = w7.heap.size) := hVE
    rw [← hVE] at hV9 haV hq1 hq2 ⊢
    have hMV : M < V := by omega
    obtain ⟨y0, y1, y2, y3⟩ := cells4 hV9
    have f2 := frozen_of_blk hV9 2
    have hV10 : (w9.setCell ⟨V, 2, none⟩ (.string s2)).heap[V]? = some (.cells #[.string s1, .int .u64 (id : Nat), .string s2, .slice none 0 0] 46 (0, 0)) := by rw [blk_set hV9 2 (.string s2)]; rfl
    have H10 : Hid _ := H9.out.side ((Keeps.refl (eqA V) w9).setA 2 (.string s2)) (fun i hi => by unfold eqA at hi; omega)
    have HV10 : Hid ((w9.setCell ⟨V, 2, none⟩ (.string s2)).heap[V]? = some (.cells #[.string s1, .int .u64 (id : Nat), .string s2, .slice none 0 0] 46 (0, 0))) := hV10
    clear hV9 hV10 hVE h9 hk9 hq3 hq4
    go_wp2_with fail
    generalize w9.setCell ⟨V, 2, none⟩ (.string s2) = W10 at H10 HV10 ⊢
    clear y0 y1 y2 y3 f2
    refine (rdTexts H10.out.r).mono ?_
    rintro e w11 ⟨⟨ok, nk, ck, rfl, hnk, hownk, hnewk⟩, h11, hk11⟩
    have H11 : Hid _ := H10.out.call h11 hk11
    have hV11 : w11.heap[V]? = some (.cells #[.string s1, .int .u64 (id : Nat), .string s2, .slice none 0 0] 46 (0, 0)) := hk11.at HV10.out haV
    obtain ⟨y0, y1, y2, y3⟩ := cells4 hV11
    have f3 := frozen_of_blk hV11 3
    have hVs : V < W10.heap.size := lt_of_block HV10.out
    have HNk : Hid (∀ j, inO ok j → V < j) := fun j hj => by have := hnewk j hj; omega
    have H12 : Hid _ := H11.out.side ((Keeps.refl (eqA V) w11).setA 3 (.slice ok nk ck)) (fun i hi => by unfold eqA at hi; omega)
    have HV12 : Hid ((w11.setCell ⟨V, 3, none⟩ (.slice ok nk ck)).heap[V]? = some (.cells #[.string s1, .int .u64 (id : Nat), .string s2, .slice ok nk ck] 46 (0, 0))) := by show _ = _; rw [blk_set hV11 3 (.slice ok nk ck)]; rfl
    have HO12 : Hid (Own TE (w11.setCell ⟨V, 3, none⟩ (.slice ok nk ck)) ok ck (rkeys (rtext 65535 (rnum 8 (rtext 65535 S).2).2).2).1) := hownk.keeps ((Keeps.refl (eqA V) w11).setA 3 _) (fun j hj e => by have := HNk.out j hj; unfold eqA at e; omega)
    clear hV11 h11 hk11 hownk hnewk
    obtain ⟨t0, t1, t2, t3⟩ := cells4 HV12.out
    have hsz12 : M < (w11.setCell ⟨V, 3, none⟩ (.slice ok nk ck)).heap.size := H12.out.size
    rw [World.size_setCell] at hsz12
    have hq5 : ¬ M = w11.heap.size := by omega
    have hq6 : ¬ w11.heap.size = M := by omega
    have H13 : Hid _ := H12.out.more ((Keeps.refl no _).alloc (.cells #[.string s1, .int .u64 (id : Nat), .string s2, .slice ok nk ck] 46))
    have H14a : Hid _ := H12.out.store 7 (.slice (some ⟨w11.heap.size, 0, none⟩) 1 1)
    have H14 : Hid _ := H14a.out.more ((Keeps.refl no _).alloc (.cells #[.string s1, .int .u64 (id : Nat), .string s2, .slice ok nk ck] 46))
    have HVB : Hid ((((w11.setCell ⟨V, 3, none⟩ (.slice ok nk ck)).setCell ⟨M, 7, none⟩ (.slice (some ⟨w11.heap.size, 0, none⟩) 1 1)).alloc (.cells #[.string s1, .int .u64 (id : Nat), .string s2, .slice ok nk ck] 46)).heap[w11.heap.size]? = some (.cells #[.string s1, .int .u64 (id : Nat), .string s2, .slice ok nk ck] 46 (0, 0))) := by
      have := blk_new ((w11.setCell ⟨V, 3, none⟩ (.slice ok nk ck)).setCell ⟨M, 7, none⟩ (.slice (some ⟨w11.heap.size, 0, none⟩) 1 1)) (.cells #[.string s1, .int .u64 (id : Nat), .string s2, .slice ok nk ck] 46)
      rw [World.size_setCell, World.size_setCell] at this
      exact this
    have HO14 : Hid (Own TE (((w11.setCell ⟨V, 3, none⟩ (.slice ok nk ck)).setCell ⟨M, 7, none⟩ (.slice (some ⟨w11.heap.size, 0, none⟩) 1 1)).alloc (.cells #[.string s1, .int .u64 (id : Nat), .string s2, .slice ok nk ck] 46)) ok ck (rkeys (rtext 65535 (rnum 8 (rtext 65535 S).2).2).2).1) := (H12.out.ownStore HO12.out (fun j hj => by have := HNk.out j hj; omega) 7 _).keepsN ((Keeps.refl no _).alloc _)
    obtain ⟨x0, x1, x2, x3, x4, x5, x6, x7⟩ := cells8 H11.out.m
    obtain ⟨u0, u1, u2, u3, u4, u5, u6, u7⟩ := cells8 H12.out.m
    obtain ⟨v0, v1, v2, v3, v4, v5, v6, v7⟩ := cells8 H13.out.m
    have f7 := frozen_of_blk H13.out.m 7
    go_wp2_with fail
    generalize ((w11.setCell ⟨V, 3, none⟩ (.slice ok nk ck)).setCell ⟨M, 7, none⟩ (.slice (some ⟨w11.heap.size, 0, none⟩) 1 1)).alloc (.cells #[.string s1, .int .u64 (id : Nat), .string s2, .slice ok nk ck] 46) = W at H14 HVB HO14 ⊢
    clear x0 x1 x2 x3 x4 x5 x6 x7 u0 u1 u2 u3 u4 u5 u6 u7 v0 v1 v2 v3 v4 v5 v6 v7 t0 t1 t2 t3 y0 y1 y2 y3 f3 f7
    have HV : Hid (rver S = (⟨text (rtext 65535 S).1, (rnum 8 (rtext 65535 S).2).1, text (rtext 65535 (rnum 8 (rtext 65535 S).2).2).1, (rkeys (rtext 65535 (rnum 8 (rtext 65535 S).2).2).2).1⟩, (rkeys (rtext 65535 (rnum 8 (rtext 65535 S).2).2).2).2)) := rver_1 (st := S) (by rw [← hid.out]; exact hi)
    obtain ⟨G, hG7⟩ : ∃ G, G = w11.heap.size := ⟨_, rfl⟩
    rw [← hG7] at H14 HVB hsz12 ⊢
    have hGM : M < G := hsz12
    have HNk2 : Hid (∀ j, inO ok j → M < j) := fun j hj => by have := HNk.out j hj; omega
    clear hG7 hq1 hq2 hq5 hq6 H14a
    have HMM : Hid (IsM W (7) ((C : Nat)) ((Q : Nat)) (0) none 0 0 none 0 0 none 0 0 (some ⟨G, 0, none⟩) 1 1 [⟨s1, id, s2, ok, nk, ck⟩] ⟨7, C, Q, 0, [], [], [], [(rver S).1]⟩) := ⟨rfl, rfl, rfl, rfl, rfl, rfl, rfl, rfl, own_nil_sl _, own_nil_sl _, own_nil_sl _, ⟨own_oneV HVB.out, rfl, fun j hj => by obtain rfl : j = 0 := (by simpa using hj); exact ⟨(by show s1 = (rver S).1.key; rw [HV.out]; exact hs1.out), (by show id = (rver S).1.id; rw [HV.out]; exact hid.out), (by show s2 = (rver S).1.val; rw [HV.out]; exact hs2.out), (by show nk = (rver S).1.keys.length; rw [HV.out]; exact hnk.out), (by show Sl TE W ok ck (rver S).1.keys; rw [HV.out]; exact HO14.out.sl)⟩⟩, HF.out.1, HF.out.2⟩
    have HOK : Hid (rok L = (rend0 ((rkeys (rtext 65535 (rnum 8 (rtext 65535 S).2).2).2).2) && may (⟨7, C, Q, 0, [], [], [], [(rver S).1]⟩))) := by show _ = _; unfold rok; rw [HR.out, HV.out]
    have HMQ : Hid (rok L = true → ⟨7, C, Q, 0, [], [], [], [(rver S).1]⟩ = (rmsg L).1) := fun _ => by rw [HR.out]
    (try clear x0 x1 x2 x3 x4 x5 x6 x7)
    obtain ⟨x0, x1, x2, x3, x4, x5, x6, x7⟩ := cells8 H14.out.m
    obtain ⟨y0, y1, y2, y3, y4, y5, y6, y7⟩ := cells8 H14.out.b
    have f0 := frozen_of_blk H14.out.b 0
    have f1 := frozen_of_blk H14.out.b 1
    have f2 := frozen_of_blk H14.out.b 2
    have f3 := frozen_of_blk H14.out.b 3
    have f4 := frozen_of_blk H14.out.b 4
    have f5 := frozen_of_blk H14.out.b 5
    have f6 := frozen_of_blk H14.out.b 6
    have f7 := frozen_of_blk H14.out.b 7
    have hne1 : ¬ M = B := by have := H14.out.lt; omega
    have hne2 : ¬ B = M := by omega
    obtain ⟨X, hX⟩ : ∃ X, rend0 ((rkeys (rtext 65535 (rnum 8 (rtext 65535 S).2).2).2).2) = X := ⟨_, rfl⟩
    rw [hX] at HOK
    obtain ⟨E, hE, hE1, hE0⟩ := rend_of hX
    have HE : Hid (E = rend ((rkeys (rtext 65535 (rnum 8 (rtext 65535 S).2).2).2).2).1 ((rkeys (rtext 65535 (rnum 8 (rtext 65535 S).2).2).2).2).2) := hE
    clear hE hX
    cases X with
    | false =>
      have hEn : ¬ ((E : Nat) : Int) = 0 := by have := hE0 rfl; omega
      have hEb : (((E : Nat) : Int) == 0) = false := by simpa using hEn
      have hEd : decide (((E : Nat) : Int) = 0) = false := by simpa using hEn
      have hEN : ¬ E = 0 := by omega
      have hENb : (E == 0) = false := by simpa using hEN
      have hENd : decide (E = 0) = false := by simpa using hEN
      clear hE0 hE1
      go_region_law ((go_simp; go_at_call 81; refine (rdEnd HE.out (H14.out.r.beside (.inr HLT.out) (Keeps.refl no W).drew (fun i hi => hi.elim))).mono ?_; rintro e w9 ⟨rfl, h9⟩; subst w9))
      all_goals go_wp2_with fail
      all_goals (try simp only [Exit.inBlock, Exit.then])
      all_goals have hs8 := set8 H14.out.b (.int .i64 7) (.int .i64 (C : Nat)) (.int .u64 (Q : Nat)) (.int .u64 0) (.slice none 0 0) (.slice none 0 0) (.slice none 0 0) (.slice (some ⟨G, 0, none⟩) 1 1)
      all_goals unfold set8w at hs8
      all_goals refine bodyPost_ret (results_row2 rfl _ _ B _ rfl (loadMd hs8.1)) rfl ?_
      all_goals exact readD_mk H14.out K0.out (by have := HBE.out; omega) HMM.out (fun j hj => by obtain ⟨x, e, _⟩ := hj; cases e) (fun j hj => by obtain ⟨x, e, _⟩ := hj; cases e) (fun j hj => by obtain ⟨x, e, _⟩ := hj; cases e) (fun j hj => by obtain ⟨x, e, rfl⟩ := hj; cases e; exact hGM) (fun j hj i hi => by obtain rfl : j = 0 := (by simpa using hj); exact HNk2.out i hi) (Keeps.refl no _) hs8.2.drew false (by rw [HOK.out]; rfl) HMQ.out
    | true =>
      have hE2 := hE1 rfl
      subst hE2
      clear hE0 hE1
      obtain ⟨MY, hMY⟩ : ∃ MY, MY = may (⟨7, C, Q, 0, [], [], [], [(rver S).1]⟩) := ⟨_, rfl⟩
      have HMY : Hid (MY = may (⟨7, C, Q, 0, [], [], [], [(rver S).1]⟩)) := hMY
      clear hMY
      go_region_held3 (fun w' => w'.cell? ⟨M, 0, none⟩ = some (.int .i64 7) ∧ w'.cell? ⟨M, 1, none⟩ = some (.int .i64 (C : Nat)) ∧ w'.cell? ⟨M, 2, none⟩ = some (.int .u64 (Q : Nat)) ∧ w'.cell? ⟨M, 3, none⟩ = some (.int .u64 0) ∧ w'.cell? ⟨M, 4, none⟩ = some (.slice none 0 0) ∧ w'.cell? ⟨M, 5, none⟩ = some (.slice none 0 0) ∧ w'.cell? ⟨M, 6, none⟩ = some (.slice none 0 0) ∧ w'.cell? ⟨M, 7, none⟩ = some (.slice (some ⟨G, 0, none⟩) 1 1)) (go_keep) (first | (go_at_call 81; refine (rdEnd HE.out (H14.out.r.beside (.inr HLT.out) (Keeps.refl no W).drew (fun i hi => hi.elim))).mono ?_; rintro e w9 ⟨rfl, h9⟩; subst w9; rw [show ((0 : Nat) : Int) = (0 : Int) from rfl]) | (go_at_call 19; refine (refMay_any _ (7) ((C : Nat)) ((Q : Nat)) (0) none 0 0 none 0 0 none 0 0 (some ⟨G, 0, none⟩) 1 1 [⟨s1, id, s2, ok, nk, ck⟩] _ (HMM.out.keepsN (Keeps.refl no W).drew)).mono ?_; rw [← HMY.out]; rintro e w10 ⟨rfl, hk10⟩; have K10 : Hid (Keeps no W w10) := (Keeps.refl no W).drew.trans hk10; clear hk10; obtain ⟨x0, x1, x2, x3, x4, x5, x6, x7⟩ := cells8 (K10.out.at H14.out.m (fun h => h)); have HB10 : Hid (_ = _) := K10.out.at H14.out.b (fun h => h); obtain ⟨y0, y1, y2, y3, y4, y5, y6, y7⟩ := cells8 HB10.out; have f0 := frozen_of_blk HB10.out 0; have f1 := frozen_of_blk HB10.out 1; have f2 := frozen_of_blk HB10.out 2; have f3 := frozen_of_blk HB10.out 3; have f4 := frozen_of_blk HB10.out 4; have f5 := frozen_of_blk HB10.out 5; have f6 := frozen_of_blk HB10.out 6; have f7 := frozen_of_blk HB10.out 7))
      all_goals go_wp2_with fail
      all_goals (try simp only [Exit.inBlock, Exit.then])
      all_goals have hs8 := set8 HB10.out (.int .i64 7) (.int .i64 (C : Nat)) (.int .u64 (Q : Nat)) (.int .u64 0) (.slice none 0 0) (.slice none 0 0) (.slice none 0 0) (.slice (some ⟨G, 0, none⟩) 1 1)
      all_goals unfold set8w at hs8
      all_goals refine bodyPost_ret (results_row2 rfl _ _ B _ rfl (loadM hs8.1)) rfl ?_
      all_goals exact readD_mk H14.out K0.out (by have := HBE.out; omega) HMM.out (fun j hj => by obtain ⟨x, e, _⟩ := hj; cases e) (fun j hj => by obtain ⟨x, e, _⟩ := hj; cases e) (fun j hj => by obtain ⟨x, e, _⟩ := hj; cases e) (fun j hj => by obtain ⟨x, e, rfl⟩ := hj; cases e; exact hGM) (fun j hj i hi => by obtain rfl : j = 0 := (by simpa using hj); exact HNk2.out i hi) K10.out hs8.2 MY (by rw [HOK.out, HMY.out]; rfl) HMQ.out

end Go.Proofs.YtjklpcamlppegaaGreat
