import Derived.Test.YtileipnoiocdlaaWB
import Derived.Deep.CutBlock
import Derived.Deep.CutRange
import Derived.Deep.RegionHeld3
import Derived.Deep.RegionHeldLaw
/- alive. -/
namespace Go.Proofs.Ytileipnoiocdlaa
open Go.RowKit Go.Sort Orl
set_option linter.unusedVariables false
set_option linter.unusedSimpArgs false

theorem two_tx (w : World) (x y : Tx) : Own TE (w.alloc (.cells #[.string x, .string y] 9)) (some ⟨w.heap.size, 0, none⟩) 2 [x, y] :=
  own_of_shape okT (blk_new w _) (Nat.le_refl _) (by unfold maxLen; omega) (by rfl) (by simp [El.cells, TE])
/-- a version handed in alone -/
theorem vers_one {w : World} {B : Nat} {r : RV} {v : Ver} (h : Sl VE w (some ⟨B, 0, none⟩) 1 [r]) (hv : VerOf w r v) : Vers w (some ⟨B, 0, none⟩) 1 [r] [v] :=
  ⟨h, rfl, fun j hj => by
    have e : j = 0 := by simpa using hj
    subst e
    exact hv⟩
theorem q_one {w : World} {B : Nat} {r : RQ} {q : Qn} (h : Sl QE w (some ⟨B, 0, none⟩) 1 [r]) (hv : QOf w r q) : Qs w (some ⟨B, 0, none⟩) 1 [r] [q] :=
  ⟨h, rfl, fun j hj => by
    have e : j = 0 := by simpa using hj
    subst e
    exact hv⟩
set_option maxRecDepth 10000 in
set_option maxHeartbeats 2000000 in
theorem alive_any (w : World) : Calls Try.prog 6 #[] w fun e w' => e = .returned (.bool true) ∧ Keeps no w w' := by
  obtain ⟨cp, hcp⟩ : ∃ cp, cp = w.heap.size := ⟨_, rfl⟩
  obtain ⟨wb, hwb⟩ : ∃ wb, wb = (w.alloc (.cells #[.int .u64 1, .int .u64 1, .int .i64 0] 27)).alloc (.cells #[.string ⟨#[97]⟩, .string ⟨#[98]⟩] 9) := ⟨_, rfl⟩
  have HB : Hid (IsCt wb cp 1 1 0 ∧ Sl TE wb (some ⟨w.heap.size + 1, 0, none⟩) 2 [kA, kB] ∧ Keeps no w wb) := by
    subst hwb
    refine ⟨?_, ?_, ((Keeps.refl no w).alloc _).alloc _⟩
    · rw [hcp]; exact blk_alloc (blk_new w _) _
    · have h := (two_tx (w.alloc (.cells #[.int .u64 1, .int .u64 1, .int .i64 0] 27)) ⟨#[97]⟩ ⟨#[98]⟩).sl
      have e : (w.alloc (.cells #[.int .u64 1, .int .u64 1, .int .i64 0] 27)).heap.size = w.heap.size + 1 := by simp
      rw [e] at h
      exact h
  have HNW : Hid (Calls Try.prog 7 #[.slice (some ⟨w.heap.size + 1, 0, none⟩) 2 2, .int .i64 1, .int .i64 3, .func (.func 8) #[.pointer (some ⟨w.heap.size, 0, none⟩)] #[]] wb (NewOk wb [kA, kB] 1 3 cp)) := by
    have h := rNew_yes wb _ 2 2 [kA, kB] 1 3 cp rfl (by decide) (by decide) HB.out.2.1 ⟨by decide, by decide, by decide, by decide⟩ val_A
    unfold fnC at h
    rw [hcp] at h ⊢
    exact h
  have HCP : Hid (cp = w.heap.size) := hcp
  rw [hwb] at HNW
  rw [← hcp] at HNW
  have HWB : Hid (wb = (w.alloc (.cells #[.int .u64 1, .int .u64 1, .int .i64 0] 27)).alloc (.cells #[.string ⟨#[97]⟩, .string ⟨#[98]⟩] 9)) := hwb
  clear hwb
  go_enter Try.func6, Try.ntmps6
  go_wp2_with fail
  rw [← hcp]
  clear hcp
  refine Calls.mono HNW.out ?_
  intro e w1 hnt
  rw [← HWB.out] at hnt
  obtain ⟨p, F, rfl, hi, hF, hk1⟩ := hnt
  have HW1 : Hid (Rc w w1 p cp 1 1 (newR [kA, kB] 1 3) 0 F) := by
    have hlt := lt_of_block HB.out.1
    refine ⟨hi, wf_A0, HB.out.1.keeps hk1 (fun h => h), fun h => ?_, ?_, HB.out.2.2.trans hk1⟩
    · have := hF cp h; omega
    · rintro i (h | rfl)
      · exact Nat.le_trans HB.out.2.2.size (hF i h)
      · exact Nat.le_of_eq HCP.out.symm
  have ct0 : w1.cell? ⟨cp, 2, none⟩ = some (.int .i64 0) := by rw [cell_of_blk HW1.out.ct]; rfl
  clear hi hF hk1 HNW HB HWB HCP
  obtain ⟨kb, hkb⟩ : ∃ kb, kb = w1.heap.size := ⟨_, rfl⟩
  have HK : Hid (∀ W, W = w1.alloc (.cells #[.string ⟨#[97]⟩, .string ⟨#[98]⟩] 9) → Rc w W p cp 1 1 (newR [kA, kB] 1 3) 0 F ∧ Sl TE W (some ⟨kb, 0, none⟩) 2 [kA, kB] ∧ Oth W F cp (fun i => i = kb)) := by
    rintro W rfl
    refine ⟨HW1.out.keepsN ((Keeps.refl _ _).alloc _), ?_, ?_, ?_⟩
    · rw [hkb]; exact (two_tx w1 ⟨#[97]⟩ ⟨#[98]⟩).sl
    · rintro i rfl; simp [hkb]
    · rintro i rfl h; have := HW1.out.lt i h; omega
  go_upto_region 6 with fail
  have h2 := HK.out _ rfl
  rw [← hkb]
  clear hkb
  generalize w1.alloc (.cells #[.string ⟨#[97]⟩, .string ⟨#[98]⟩] 9) = w2 at h2 ⊢
  have HW2 : Hid (Rc w w2 p cp 1 1 (newR [kA, kB] 1 3) 0 F) := h2.1
  have HK2 : Hid (Sl TE w2 (some ⟨kb, 0, none⟩) 2 [kA, kB] ∧ Oth w2 F cp (fun i => i = kb)) := h2.2
  clear h2 HK HW1 ct0
  have HBG : Hid (Calls Try.prog 10 #[.pointer (some ⟨p, 0, none⟩)] w2 (TellTo w2 p cp 1 1 F ⟨sA1, [qA1], 1⟩)) := by
    have h := rBegin_any w2 p cp 1 1 F _ 0 HW2.out.is HW2.out.wf HW2.out.ct (by decide) HW2.out.cF
    rw [begin_A] at h
    exact h
  go_wp2_with fail
  refine Calls.mono HBG.out ?_
  rintro e w3 ⟨o3, n3, c3, rs3, G3, rfl, ht⟩
  have HW3 : Hid (Rc w w3 p cp 1 1 sA1 1 G3) := HW2.out.tell ht wf_A1
  have HK3 : Hid (Sl TE w3 (some ⟨kb, 0, none⟩) 2 [kA, kB] ∧ Oth w3 G3 cp (fun i => i = kb)) := ⟨HK2.out.1.keeps ht.kp (fun i hi => HK2.out.2.far i (by obtain ⟨x, e, rfl⟩ := hi; cases e; rfl)), HK2.out.2.tell ht⟩
  have HT3 : Hid (Tq w3 o3 c3 rs3 [qA1] ∧ Oth w3 G3 cp (TB o3 rs3 1)) := ⟨ht.tq, ht.tq.lt, ht.far (lt_of_block HW2.out.ct)⟩
  have hn3 : n3 = 1 := ht.n
  subst hn3
  clear ht HW2 HK2 HBG
  have HAN : Hid (Calls Try.prog 14 #[.int .u64 1, .agg #[.string ⟨#[97]⟩, .int .u64 65536, .string ⟨#[49]⟩, .slice (some ⟨kb, 0, none⟩) 2 2]] w3 fun e w' => ∃ B, e = .returned (aggC 7 3 1 0 none none none (some ⟨B, 0, none⟩) 0 0 0 1 0 0 0 1) ∧ Sl VE w' (some ⟨B, 0, none⟩) 1 [⟨⟨#[97]⟩, 65536, ⟨#[49]⟩, some ⟨kb, 0, none⟩, 2, 2⟩] ∧ w3.heap.size ≤ B ∧ Keeps no w3 w') := answer_any w3 1 ⟨⟨#[97]⟩, 65536, ⟨#[49]⟩, some ⟨kb, 0, none⟩, 2, 2⟩
  go_wp2_with fail
  refine Calls.mono HAN.out ?_
  rintro e w4 ⟨B4, rfl, hb4, hB4, hk4⟩
  have HW4 : Hid (Rc w w4 p cp 1 1 sA1 1 G3) := HW3.out.keepsN hk4
  have HK4 : Hid (Sl TE w4 (some ⟨kb, 0, none⟩) 2 [kA, kB] ∧ Oth w4 G3 cp (fun i => i = kb)) := ⟨HK3.out.1.keepsN hk4, HK3.out.2.keeps hk4⟩
  have HT4 : Hid (Tq w4 o3 c3 rs3 [qA1] ∧ Oth w4 G3 cp (TB o3 rs3 1)) := ⟨HT3.out.1.keepsN hk4, HT3.out.2.keeps hk4⟩
  have HR4 : Hid (Calls Try.prog 13 #[.pointer (some ⟨p, 0, none⟩), .int .i64 0, aggC 7 3 1 0 none none none (some ⟨B4, 0, none⟩) 0 0 0 1 0 0 0 1] w4 (TellTo w4 p cp 1 1 G3 ⟨sA2, [], 1⟩)) := by
    have h := rReceive_any w4 p cp 1 1 G3 sA1 1 HW4.out.is HW4.out.wf HW4.out.ct (by decide) HW4.out.cF 0 7 3 1 0 none none none (some ⟨B4, 0, none⟩) 0 0 0 1 0 0 0 1 _ [xA1] rfl (vers_one hb4 ⟨rfl, rfl, rfl, rfl, HK4.out.1⟩) (fitL_A _ (.inl rfl))
    rw [recv_A1] at h
    exact h
  clear hb4 hB4 hk4 HW3 HK3 HT3 HAN
  go_wp2_with fail
  refine Calls.mono HR4.out ?_
  rintro e w5 ⟨o5, n5, c5, rs5, G5, rfl, ht⟩
  have HW5 : Hid (Rc w w5 p cp 1 1 sA2 1 G5) := HW4.out.tell ht wf_A2
  have HK5 : Hid (Sl TE w5 (some ⟨kb, 0, none⟩) 2 [kA, kB] ∧ Oth w5 G5 cp (fun i => i = kb)) := ⟨HK4.out.1.keeps ht.kp (fun i hi => HK4.out.2.far i (by obtain ⟨x, e, rfl⟩ := hi; cases e; rfl)), HK4.out.2.tell ht⟩
  have HT5 : Hid (Tq w5 o3 c3 rs3 [qA1] ∧ Oth w5 G5 cp (TB o3 rs3 1)) := ⟨HT4.out.1.keeps ht.kp HT4.out.2.far, HT4.out.2.tell ht⟩
  have hn5 : n5 = 0 := ht.n
  subst hn5
  clear ht HW4 HK4 HT4 HR4
  have HA5 : Hid (Calls Try.prog 11 #[.pointer (some ⟨p, 0, none⟩)] w5 (TellTo w5 p cp 1 1 G5 ⟨sA2, [qA1], 1⟩)) := by
    have h := rAgain_any w5 p cp 1 1 G5 _ 1 HW5.out.is HW5.out.wf HW5.out.ct HW5.out.cF rfl
    rw [ask_A2] at h
    exact h
  go_wp2_with fail
  refine Calls.mono HA5.out ?_
  rintro e w6 ⟨o6, n6, c6, rs6, G6, rfl, ht⟩
  have HW6 : Hid (Rc w w6 p cp 1 1 sA2 1 G6) := HW5.out.tell ht wf_A2
  have HK6 : Hid (Sl TE w6 (some ⟨kb, 0, none⟩) 2 [kA, kB] ∧ Oth w6 G6 cp (fun i => i = kb)) := ⟨HK5.out.1.keeps ht.kp (fun i hi => HK5.out.2.far i (by obtain ⟨x, e, rfl⟩ := hi; cases e; rfl)), HK5.out.2.tell ht⟩
  have HT6 : Hid (Tq w6 o3 c3 rs3 [qA1] ∧ Oth w6 G6 cp (TB o3 rs3 1)) := ⟨HT5.out.1.keeps ht.kp HT5.out.2.far, HT5.out.2.tell ht⟩
  have HZ6 : Hid (Tq w6 o6 c6 rs6 [qA1] ∧ Oth w6 G6 cp (TB o6 rs6 1)) := ⟨ht.tq, ht.tq.lt, ht.far (lt_of_block HW5.out.ct)⟩
  have hn6 : n6 = 1 := ht.n
  subst hn6
  clear ht HW5 HK5 HT5 HA5
  have HAN : Hid (Calls Try.prog 14 #[.int .u64 1, .agg #[.string ⟨#[98]⟩, .int .u64 0, .string ⟨#[]⟩, .slice none 0 0]] w6 fun e w' => ∃ B, e = .returned (aggC 7 3 1 0 none none none (some ⟨B, 0, none⟩) 0 0 0 1 0 0 0 1) ∧ Sl VE w' (some ⟨B, 0, none⟩) 1 [⟨⟨#[98]⟩, 0, e0, none, 0, 0⟩] ∧ w6.heap.size ≤ B ∧ Keeps no w6 w') := answer_any w6 1 ⟨⟨#[98]⟩, 0, e0, none, 0, 0⟩
  go_wp2_with fail
  refine Calls.mono HAN.out ?_
  rintro e w7 ⟨B7, rfl, hb7, hB7, hk7⟩
  have HW7 : Hid (Rc w w7 p cp 1 1 sA2 1 G6) := HW6.out.keepsN hk7
  have HK7 : Hid (Sl TE w7 (some ⟨kb, 0, none⟩) 2 [kA, kB] ∧ Oth w7 G6 cp (fun i => i = kb)) := ⟨HK6.out.1.keepsN hk7, HK6.out.2.keeps hk7⟩
  have HT7 : Hid (Tq w7 o3 c3 rs3 [qA1] ∧ Oth w7 G6 cp (TB o3 rs3 1)) := ⟨HT6.out.1.keepsN hk7, HT6.out.2.keeps hk7⟩
  have HZ7 : Hid (Tq w7 o6 c6 rs6 [qA1] ∧ Oth w7 G6 cp (TB o6 rs6 1)) := ⟨HZ6.out.1.keepsN hk7, HZ6.out.2.keeps hk7⟩
  have HR7 : Hid (Calls Try.prog 13 #[.pointer (some ⟨p, 0, none⟩), .int .i64 0, aggC 7 3 1 0 none none none (some ⟨B7, 0, none⟩) 0 0 0 1 0 0 0 1] w7 (TellTo w7 p cp 1 1 G6 ⟨sA4, [qA4], 2⟩)) := by
    have h := rReceive_any w7 p cp 1 1 G6 sA2 1 HW7.out.is HW7.out.wf HW7.out.ct (by decide) HW7.out.cF 0 7 3 1 0 none none none (some ⟨B7, 0, none⟩) 0 0 0 1 0 0 0 1 _ [xB0] rfl (vers_one hb7 ⟨rfl, rfl, rfl, rfl, (own_nil w7).sl⟩) (fitL_A _ (.inr (.inl rfl)))
    rw [recv_A2] at h
    exact h
  clear hb7 hB7 hk7 HW6 HK6 HT6 HZ6 HAN
  go_wp2_with fail
  refine Calls.mono HR7.out ?_
  rintro e w8 ⟨o8, n8, c8, rs8, G8, rfl, ht⟩
  have HW8 : Hid (Rc w w8 p cp 1 1 sA4 2 G8) := HW7.out.tell ht wf_A4
  have HK8 : Hid (Sl TE w8 (some ⟨kb, 0, none⟩) 2 [kA, kB] ∧ Oth w8 G8 cp (fun i => i = kb)) := ⟨HK7.out.1.keeps ht.kp (fun i hi => HK7.out.2.far i (by obtain ⟨x, e, rfl⟩ := hi; cases e; rfl)), HK7.out.2.tell ht⟩
  have HT8 : Hid (Tq w8 o3 c3 rs3 [qA1]) := HT7.out.1.keeps ht.kp HT7.out.2.far
  have HZ8 : Hid (Tq w8 o6 c6 rs6 [qA1]) := HZ7.out.1.keeps ht.kp HZ7.out.2.far
  have HY8 : Hid (Tq w8 o8 c8 rs8 [qA4]) := ht.tq
  have hn8 : n8 = 1 := ht.n
  subst hn8
  clear ht HW7 HK7 HT7 HZ7 HR7
  go_upto_region 12 with fail
  obtain ⟨M, hM⟩ : ∃ M, M = w8.heap.size := ⟨_, rfl⟩
  have H9 : Hid (∀ W, W = ((w8.alloc (.cells #[.int .i64 3, .int .i64 3, .int .u64 1, .int .u64 0, .slice none 0 0, .slice (some ⟨kb, 0, none⟩) 2 2, .slice none 0 0, .slice none 0 0] 42)).alloc (.cells #[.string ⟨#[98]⟩, .int .u64 65536] 50)).alloc (.cells #[.int .i64 4, .int .i64 3, .int .u64 2, .int .u64 0, .slice none 0 0, .slice none 0 0, .slice (some ⟨M + 1, 0, none⟩) 1 1, .slice none 0 0] 42) →
      (W.heap[M]? = some (.cells #[.int .i64 3, .int .i64 3, .int .u64 1, .int .u64 0, .slice none 0 0, .slice (some ⟨kb, 0, none⟩) 2 2, .slice none 0 0, .slice none 0 0] 42 (0, 0)) ∧ W.heap[M + 1 + 1]? = some (.cells #[.int .i64 4, .int .i64 3, .int .u64 2, .int .u64 0, .slice none 0 0, .slice none 0 0, .slice (some ⟨M + 1, 0, none⟩) 1 1, .slice none 0 0] 42 (0, 0))) ∧ Sl WE W (some ⟨M + 1, 0, none⟩) 1 [(kB, 65536)] ∧ Keeps no w8 W) := by
    rintro W rfl
    generalize hE1 : w8.alloc (.cells #[.int .i64 3, .int .i64 3, .int .u64 1, .int .u64 0, .slice none 0 0, .slice (some ⟨kb, 0, none⟩) 2 2, .slice none 0 0, .slice none 0 0] 42) = wx
    have b1 : wx.heap[M]? = some (.cells #[.int .i64 3, .int .i64 3, .int .u64 1, .int .u64 0, .slice none 0 0, .slice (some ⟨kb, 0, none⟩) 2 2, .slice none 0 0, .slice none 0 0] 42 (0, 0)) := by rw [← hE1, hM]; exact blk_new w8 _
    have k1 : Keeps no w8 wx := by rw [← hE1]; exact (Keeps.refl _ _).alloc _
    have s1 : wx.heap.size = M + 1 := by rw [← hE1, hM]; simp
    have h := lit_one (E := WE) wx (kB, 65536) #[.string ⟨#[98]⟩, .int .u64 65536] rfl
    rw [s1] at h
    have s2 : (wx.alloc (.cells #[.string ⟨#[98]⟩, .int .u64 65536] 50)).heap.size = M + 1 + 1 := by simp [s1]
    refine ⟨⟨blk_alloc (blk_alloc b1 _) _, ?_⟩, h.keepsN ((Keeps.refl _ _).alloc _), (k1.alloc _).alloc _⟩
    have h2 := blk_new (wx.alloc (.cells #[.string ⟨#[98]⟩, .int .u64 65536] 50)) (.cells #[.int .i64 4, .int .i64 3, .int .u64 2, .int .u64 0, .slice none 0 0, .slice none 0 0, .slice (some ⟨M + 1, 0, none⟩) 1 1, .slice none 0 0] 42)
    rw [s2] at h2
    exact h2
  rw [← hM]
  clear hM
  have h9 := H9.out _ rfl
  generalize ((w8.alloc (.cells #[.int .i64 3, .int .i64 3, .int .u64 1, .int .u64 0, .slice none 0 0, .slice (some ⟨kb, 0, none⟩) 2 2, .slice none 0 0, .slice none 0 0] 42)).alloc (.cells #[.string ⟨#[98]⟩, .int .u64 65536] 50)).alloc (.cells #[.int .i64 4, .int .i64 3, .int .u64 2, .int .u64 0, .slice none 0 0, .slice none 0 0, .slice (some ⟨M + 1, 0, none⟩) 1 1, .slice none 0 0] 42) = w9 at h9 ⊢
  have HB9 : Hid (w9.heap[M + 1 + 1]? = some (.cells #[.int .i64 4, .int .i64 3, .int .u64 2, .int .u64 0, .slice none 0 0, .slice none 0 0, .slice (some ⟨M + 1, 0, none⟩) 1 1, .slice none 0 0] 42 (0, 0)) ∧ Sl WE w9 (some ⟨M + 1, 0, none⟩) 1 [(kB, 65536)]) := ⟨h9.1.2, h9.2.1⟩
  have hk9 := h9.2.2
  have HW9 : Hid (Rc w w9 p cp 1 1 sA4 2 G8) := HW8.out.keepsN hk9
  have HK9 : Hid (Sl TE w9 (some ⟨kb, 0, none⟩) 2 [kA, kB]) := HK8.out.1.keepsN hk9
  have HT9 : Hid (Tq w9 o3 c3 rs3 [qA1] ∧ Tq w9 o6 c6 rs6 [qA1] ∧ Tq w9 o8 c8 rs8 [qA4]) := ⟨HT8.out.keepsN hk9, HZ8.out.keepsN hk9, HY8.out.keepsN hk9⟩
  have a0 := cell_of_blk h9.1.1 0
  have a1 := cell_of_blk h9.1.1 1
  have a2 := cell_of_blk h9.1.1 2
  have a3 := cell_of_blk h9.1.1 3
  have a4 := cell_of_blk h9.1.1 4
  have a5 := cell_of_blk h9.1.1 5
  have a6 := cell_of_blk h9.1.1 6
  have a7 := cell_of_blk h9.1.1 7
  simp only [List.getElem?_toArray, List.getElem?_cons_succ, List.getElem?_cons_zero] at a0 a1 a2 a3 a4 a5 a6 a7
  have fA : FitQs [qA1] := by have := asked_fit wf_A1; rwa [ask_A1] at this
  have fB : FitQs [qA4] := by have := asked_fit wf_A4; rwa [ask_A4] at this
  have HS1 : Hid (Calls Try.prog 12 #[.slice o3 1 c3, .slice (some ⟨w9.heap.size, 0, none⟩) 1 1] (w9.alloc (.cells #[.int .i64 0, .int .i64 3, .int .i64 3, .int .u64 1, .int .u64 0, .slice none 0 0, .slice (some ⟨kb, 0, none⟩) 2 2, .slice none 0 0, .slice none 0 0] 44)) fun e w' => e = .returned (.bool true) ∧ Keeps no w9 w') := by
    have k := (Keeps.refl no w9).alloc (.cells #[.int .i64 0, .int .i64 3, .int .i64 3, .int .u64 1, .int .u64 0, .slice none 0 0, .slice (some ⟨kb, 0, none⟩) 2 2, .slice none 0 0, .slice none 0 0] 44)
    have hl := lit_one (E := QE) w9 ⟨0, 3, 3, 1, some ⟨kb, 0, none⟩, 2, 2, none, 0, 0⟩ #[.int .i64 0, .int .i64 3, .int .i64 3, .int .u64 1, .int .u64 0, .slice none 0 0, .slice (some ⟨kb, 0, none⟩) 2 2, .slice none 0 0, .slice none 0 0] rfl
    have h := samePosts_any _ o3 1 c3 _ 1 1 rs3 _ [qA1] [qA1] rfl rfl fA fA (HT9.out.1.keepsN k).qs (q_one hl ⟨rfl, rfl, rfl, rfl, rfl, HK9.out.keepsN k, rfl, (own_nil _).sl⟩)
    refine h.mono ?_
    rintro e w' ⟨rfl, hk⟩
    exact ⟨rfl, k.trans hk⟩
  have HS2 : Hid (∀ X, Keeps no w9 X → Calls Try.prog 12 #[.slice o6 1 c6, .slice o3 1 c3] X fun e w' => e = .returned (.bool true) ∧ Keeps no X w') := fun X k => samePosts_any _ o6 1 c6 o3 1 c3 rs6 rs3 [qA1] [qA1] rfl rfl fA fA (HT9.out.2.1.keepsN k).qs (HT9.out.1.keepsN k).qs
  have HS3 : Hid (∀ X, Keeps no w9 X → Calls Try.prog 12 #[.slice o8 1 c8, .slice (some ⟨X.heap.size, 0, none⟩) 1 1] (X.alloc (.cells #[.int .i64 0, .int .i64 4, .int .i64 3, .int .u64 2, .int .u64 0, .slice none 0 0, .slice none 0 0, .slice (some ⟨M + 1, 0, none⟩) 1 1, .slice none 0 0] 44)) fun e w' => e = .returned (.bool true) ∧ Keeps no X w') := by
    intro X kX
    have k := (Keeps.refl no X).alloc (.cells #[.int .i64 0, .int .i64 4, .int .i64 3, .int .u64 2, .int .u64 0, .slice none 0 0, .slice none 0 0, .slice (some ⟨M + 1, 0, none⟩) 1 1, .slice none 0 0] 44)
    have hl := lit_one (E := QE) X ⟨0, 4, 3, 2, none, 0, 0, some ⟨M + 1, 0, none⟩, 1, 1⟩ #[.int .i64 0, .int .i64 4, .int .i64 3, .int .u64 2, .int .u64 0, .slice none 0 0, .slice none 0 0, .slice (some ⟨M + 1, 0, none⟩) 1 1, .slice none 0 0] rfl
    have h := samePosts_any _ o8 1 c8 _ 1 1 rs8 _ [qA4] [qA4] rfl rfl fB fB ((HT9.out.2.2.keepsN kX).keepsN k).qs (q_one hl ⟨rfl, rfl, rfl, rfl, rfl, (own_nil _).sl, rfl, (HB9.out.2.keepsN kX).keepsN k⟩)
    refine h.mono ?_
    rintro e w' ⟨rfl, hk⟩
    exact ⟨rfl, k.trans hk⟩
  clear h9 hk9 H9 HW8 HK8 HT8 HZ8 HY8 fA fB
  go_wp2_with fail
  refine Calls.mono HS1.out ?_
  rintro e wa ⟨rfl, hka⟩
  have HKA : Hid (Keeps no w9 wa) := hka
  clear hka HS1 a0 a1 a2 a3 a4 a5 a6 a7
  go_wp2_with fail
  refine Calls.mono (HS2.out _ HKA.out) ?_
  rintro e wc ⟨rfl, hkc⟩
  have HKC : Hid (Keeps no w9 wc) := HKA.out.trans hkc
  have hb := hkc.at (HKA.out.at HB9.out.1 (fun h => h)) (fun h => h)
  have a0 := cell_of_blk hb 0
  have a1 := cell_of_blk hb 1
  have a2 := cell_of_blk hb 2
  have a3 := cell_of_blk hb 3
  have a4 := cell_of_blk hb 4
  have a5 := cell_of_blk hb 5
  have a6 := cell_of_blk hb 6
  have a7 := cell_of_blk hb 7
  simp only [List.getElem?_toArray, List.getElem?_cons_succ, List.getElem?_cons_zero] at a0 a1 a2 a3 a4 a5 a6 a7
  clear hkc HKA HS2 hb
  go_wp2_with fail
  refine Calls.mono (HS3.out _ HKC.out) ?_
  rintro e wd ⟨rfl, hkd⟩
  have HW10 : Hid (Rc w wd p cp 1 1 sA4 2 G8) := (HW9.out.keepsN HKC.out).keepsN hkd
  have HK10 : Hid (Sl TE wd (some ⟨kb, 0, none⟩) 2 [kA, kB]) := (HK9.out.keepsN HKC.out).keepsN hkd
  have HRS : Hid (Calls Try.prog 16 #[.pointer (some ⟨p, 0, none⟩)] wd fun e w' => e = .returned (.int .i64 0) ∧ Keeps no wd w') := rResult_any wd p cp G8 sA4 HW10.out.is
  clear hkd HKC HS3 HT9 HB9 HW9 HK9 a0 a1 a2 a3 a4 a5 a6 a7
  go_wp2_with fail
  refine Calls.mono HRS.out ?_
  rintro e we ⟨rfl, hke⟩
  have HWE : Hid (Rc w we p cp 1 1 sA4 2 G8) := HW10.out.keepsN hke
  have HKE : Hid (Sl TE we (some ⟨kb, 0, none⟩) 2 [kA, kB]) := HK10.out.keepsN hke
  clear hke HRS HW10 HK10
  have HAN : Hid (Calls Try.prog 14 #[.int .u64 2, .agg #[.string ⟨#[98]⟩, .int .u64 65536, .string ⟨#[50]⟩, .slice (some ⟨kb, 0, none⟩) 2 2]] we fun e w' => ∃ B, e = .returned (aggC 7 3 2 0 none none none (some ⟨B, 0, none⟩) 0 0 0 1 0 0 0 1) ∧ Sl VE w' (some ⟨B, 0, none⟩) 1 [⟨⟨#[98]⟩, 65536, ⟨#[50]⟩, some ⟨kb, 0, none⟩, 2, 2⟩] ∧ we.heap.size ≤ B ∧ Keeps no we w') := answer_any we 2 ⟨⟨#[98]⟩, 65536, ⟨#[50]⟩, some ⟨kb, 0, none⟩, 2, 2⟩
  go_wp2_with fail
  refine Calls.mono HAN.out ?_
  rintro e wf ⟨Bf, rfl, hbf, hBf, hkf⟩
  have HWF : Hid (Rc w wf p cp 1 1 sA4 2 G8) := HWE.out.keepsN hkf
  have HRF : Hid (Calls Try.prog 13 #[.pointer (some ⟨p, 0, none⟩), .int .i64 0, aggC 7 3 2 0 none none none (some ⟨Bf, 0, none⟩) 0 0 0 1 0 0 0 1] wf (TellTo wf p cp 1 1 G8 ⟨sA6, [], 2⟩)) := by
    have h := rReceive_any wf p cp 1 1 G8 sA4 2 HWF.out.is HWF.out.wf HWF.out.ct (by decide) HWF.out.cF 0 7 3 2 0 none none none (some ⟨Bf, 0, none⟩) 0 0 0 1 0 0 0 1 _ [xB2] rfl (vers_one hbf ⟨rfl, rfl, rfl, rfl, HKE.out.keepsN hkf⟩) (fitL_A _ (.inr (.inr rfl)))
    rw [recv_A4] at h
    exact h
  clear hbf hBf hkf HWE HKE HAN
  go_wp2_with fail
  refine Calls.mono HRF.out ?_
  rintro e wg ⟨og, ng, cg, rsg, GG, rfl, ht⟩
  have HWG : Hid (Rc w wg p cp 1 1 sA6 2 GG) := HWF.out.tell ht wf_A6
  clear ht HWF HRF
  have HVS : Hid (Calls Try.prog 15 #[.pointer (some ⟨p, 0, none⟩)] wg (VersTo wg [xA1, xB2])) := rVersions_any wg p cp GG sA6 HWG.out.is HWG.out.wf
  go_wp2_with fail
  refine Calls.mono HVS.out ?_
  rintro e wh ⟨oh, nh, ch, rsh, rfl, hnh, hvh⟩
  have e2 : nh = 2 := hnh
  subst e2
  have HWH : Hid (Rc w wh p cp 1 1 sA6 2 GG) := HWG.out.keepsN hvh.kp
  have HVH : Hid (Vers wh oh ch rsh [xA1, xB2]) := hvh.vers
  have HRS : Hid (Calls Try.prog 16 #[.pointer (some ⟨p, 0, none⟩)] wh fun e w' => e = .returned (.int .i64 1) ∧ Keeps no wh w') := rResult_any wh p cp GG sA6 HWH.out.is
  clear hnh hvh HWG HVS
  go_wp2_with fail
  refine Calls.mono HRS.out ?_
  rintro e wi ⟨rfl, hki⟩
  have HWI : Hid (Rc w wi p cp 1 1 sA6 2 GG) := HWH.out.keepsN hki
  have hv := HVH.out.keepsN hki
  obtain ⟨b, off, eo, d0, d1, d2, d3⟩ := hv.sl.atV (j := 0) (by rw [hv.len]; decide)
  obtain ⟨b', off', eo', d0', d1', d2', d3'⟩ := hv.sl.atV (j := 1) (by rw [hv.len]; decide)
  rw [eo] at eo'
  cases eo'
  subst eo
  have y0 : wi.cell? ⟨b, off + 2, none⟩ = some (.string ⟨#[49]⟩) := by have := (hv.each 0 (by decide)).val; rw [show off + 2 = off + 0 * 4 + 2 by omega, d2, this]; rfl
  have y1 : wi.cell? ⟨b, off + 4 + 2, none⟩ = some (.string ⟨#[50]⟩) := by have := (hv.each 1 (by decide)).val; rw [show off + 4 + 2 = off + 1 * 4 + 2 by omega, d2', this]; rfl
  have HAG : Hid (Calls Try.prog 11 #[.pointer (some ⟨p, 0, none⟩)] wi (TellTo wi p cp 1 1 GG ⟨sA6, [], 2⟩)) := rAgain_end HWI.out.is HWI.out.ct (by decide)
  clear hki HRS HWH HVH hv d0 d1 d2 d3 d0' d1' d2' d3'
  go_wp2_with fail
  refine Calls.mono HAG.out ?_
  rintro e wj ⟨oj, nj, cj, rsj, GJ, rfl, ht⟩
  have HWJ : Hid (Keeps no w wj) := (HWI.out.tell ht wf_A6).kp
  have e3 : nj = 0 := ht.n
  subst e3
  clear ht HWI HAG
  go_wp2_with fail
  go_ret
  exact ⟨rfl, HWJ.out⟩
end Go.Proofs.Ytileipnoiocdlaa
/- The law's worlds: writes in memory; id, part, has. -/
namespace Go.Proofs.Ytileipnoiocdlaa
open Go.RowKit Go.Sort Orl
set_option linter.unusedVariables false
set_option linter.unusedSimpArgs false

/-! ### writes -/
abbrev Wr := List Tx × Nat
def wr0 : Wr := ([], 0)
structure RWr where
  o : Option Addr
  n : Nat
  c : Nat
  done : Nat
def rw0 : RWr := ⟨none, 0, 0, 0⟩
def WrE : El RWr := ⟨93, 57, 2, 32, fun r => [.slice r.o r.n r.c, .int .u64 (r.done : Nat)]⟩
theorem infoWr : (Try.prog.info? 93).map (fun i => (i.zero, i.size, i.bytes)) = some (some (.agg #[.slice none 0 0, .int .u64 0]), 2, 32) := by kernel_rfl
theorem okWr : WrE.Ok := by
  obtain ⟨i0, hi, hz0, hz1, hz2⟩ := info_parts infoWr
  exact ⟨fun _ => rfl, fun x u hu => by simp [WrE] at hu; rcases hu with rfl | rfl <;> rfl, by decide, Try.underlying57, i0, _, hi, hz0, hz1, hz2, rfl⟩
structure WrOf (w : World) (r : RWr) (x : Wr) : Prop where
  n : r.n = x.1.length
  sl : Sl TE w r.o r.c x.1
  done : r.done = x.2
structure Wrs (w : World) (o : Option Addr) (c : Nat) (rs : List RWr) (ws : List Wr) : Prop where
  sl : Sl WrE w o c rs
  len : rs.length = ws.length
  each : ∀ j, j < ws.length → WrOf w (rs.getD j rw0) (ws.getD j wr0)
theorem WrOf.keepsN {w w' : World} {r : RWr} {x : Wr} (h : WrOf w r x) (k : Keeps no w w') : WrOf w' r x := ⟨h.n, h.sl.keepsN k, h.done⟩
theorem Wrs.keepsN {w w' : World} {o : Option Addr} {c : Nat} {rs : List RWr} {ws : List Wr} (h : Wrs w o c rs ws) (k : Keeps no w w') : Wrs w' o c rs ws := ⟨h.sl.keepsN k, h.len, fun j hj => (h.each j hj).keepsN k⟩
theorem Wrs.at {w : World} {o : Option Addr} {c : Nat} {rs : List RWr} {ws : List Wr} (h : Wrs w o c rs ws) {j : Nat} (hj : j < ws.length) : ∃ b off ko kc, o = some ⟨b, off, none⟩ ∧ w.cell? ⟨b, off + j * 2, none⟩ = some (.slice ko (ws.getD j wr0).1.length kc) ∧ w.cell? ⟨b, off + j * 2 + 1, none⟩ = some (.int .u64 ((ws.getD j wr0).2 : Nat)) ∧ Sl TE w ko kc (ws.getD j wr0).1 := by
  rcases h.sl.row with e | ⟨b, off, e, hc⟩
  · have := h.len; rw [e] at this; simp at this; omega
  · have hj' : j < rs.length := by rw [h.len]; exact hj
    have hv := h.each j hj
    refine ⟨b, off, (rs.getD j rw0).o, (rs.getD j rw0).c, e, ?_, ?_, hv.sl⟩
    · have := cells_at okWr rw0 rs j 0 hj' (by decide)
      have := hc (j * 2) (.slice (rs.getD j rw0).o (rs.getD j rw0).n (rs.getD j rw0).c) (by simpa [WrE] using this)
      rw [hv.n] at this
      exact this
    · have := cells_at okWr rw0 rs j 1 hj' (by decide)
      have := hc (j * 2 + 1) (.int .u64 ((rs.getD j rw0).done : Nat)) (by simpa [WrE] using this)
      rw [hv.done] at this
      rw [Nat.add_assoc]
      exact this
/-- what may be -/
def FitT (l : List Tx) : Prop := l.length ≤ 8796093021952 ∧ ∀ k ∈ l, k.size ≤ 140737488351232
structure FitWs (ws : List Wr) : Prop where
  len : ws.length ≤ 4398046511000
  keys : ∀ x ∈ ws, FitT x.1
  done : ∀ x ∈ ws, x.2 < 18446744073709551616
def aggWd (P : Int) (o : Option Addr) (n c : Nat) : Value := .agg #[.int .i64 P, .slice o n c]
/-! ### id, part -/
def idP (i : Nat) : Nat := (i + 1) * 65536
set_option maxRecDepth 10000 in
theorem id_any (w : World) (i : Nat) (hi : i ≤ 100) : Calls Try.prog 56 #[.int .i64 (i : Nat)] w fun e w' => e = .returned (.int .u64 (idP i : Nat)) ∧ w' = w := by
  have HI : Hid (((idP i : Nat) : Int) = ((i : Int) + 1) * 65536) := show _ = _ by unfold idP; omega
  have hi' : (i : Int) ≤ 100 := by omega
  generalize ((idP i : Nat) : Int) = J at HI
  clear hi
  go_enter Try.func56, Try.ntmps56
  go_wp2_with fail
  go_ret
  refine ⟨?_, rfl⟩
  rw [HI.out]
  rfl
theorem part_any (w : World) (k : Tx) (P : Nat) (h1 : 1 ≤ P) (h2 : P ≤ 64) (hk : k.size ≤ maxLen) : Calls Try.prog 55 #[.string k, .int .i64 (P : Nat)] w fun e w' => e = .returned (.int .i64 (pl P k : Nat)) ∧ w' = w := by
  have HO : Hid (Calls Try.prog 70 #[.string k, .int .i64 (P : Int)] w fun e w' => e = .returned (.tuple #[.int .i64 (pl P k : Nat), .int .i64 0]) ∧ w' = w) := of_yes k P (by omega) h2 w hk
  generalize ((pl P k : Nat) : Int) = J at HO ⊢
  clear h1 h2 hk
  go_enter Try.func55, Try.ntmps55
  go_wp2_with fail
  refine HO.out.mono ?_
  rintro e w' ⟨rfl, hw'⟩
  subst w'
  go_wp2_with fail
  go_ret
  exact ⟨rfl, rfl⟩
/-! ### has -/
set_option maxRecDepth 10000 in
theorem has_any (w : World) (P : Int) (o : Option Addr) (n c : Nat) (rs : List RWr) (ws : List Wr) (hn : n = ws.length) (hw : Wrs w o c rs ws) (hf : FitWs ws) (i : Nat) (hi : i < ws.length) (k : Tx) :
    Calls Try.prog 38 #[aggWd P o n c, .int .i64 (i : Nat), .string k] w fun e w' => e = .returned (.bool (inn (ws.getD i wr0).1 k)) ∧ Keeps no w w' := by
  obtain ⟨b, off, ko, kc, rfl, c0, _, hs⟩ := hw.at hi
  have hil : (i : Int) < n := by omega
  have hi2 : (i : Int) ≤ 4398046511000 := by have := hf.len; omega
  have hfk := hf.keys _ (getD_mem_lt wr0 hi)
  generalize (ws.getD i wr0).1 = ks at c0 hs hfk ⊢
  obtain ⟨m, hm⟩ : ∃ m, m = ks.length := ⟨_, rfl⟩
  rw [← hm] at c0
  have HM : Hid (m = ks.length) := hm
  have hm2 : (m : Int) ≤ 8796093021952 := by have := hfk.1; omega
  obtain ⟨A, hA⟩ : ∃ A, A = w.heap.size := ⟨_, rfl⟩
  have HK : Hid (∀ W, W = w.alloc (.cells #[.int .i64 P, .slice (some ⟨b, off, none⟩) n c] 59) → W.cell? ⟨A, 1, none⟩ = some (.slice (some ⟨b, off, none⟩) n c) ∧ Keeps no w W) := by
    rintro W rfl
    exact ⟨by rw [hA, cell_of_blk (blk_new w _)]; rfl, (Keeps.refl _ _).alloc _⟩
  have HS : Hid (Sl TE w ko kc ks ∧ w.cell? ⟨b, off + i * 2, none⟩ = some (.slice ko m kc)) := ⟨hs, c0⟩
  clear hn hw hf hi hm hs hfk c0
  unfold aggWd
  go_enter Try.func38, Try.ntmps38
  go_upto_region 1 with fail
  have h1 := HK.out _ rfl
  rw [← hA]
  clear hA
  generalize w.alloc (.cells #[.int .i64 P, .slice (some ⟨b, off, none⟩) n c] 59) = w1 at h1 ⊢
  have c1 := h1.1
  have c2 := h1.2.cellN HS.out.2
  have HS1 : Hid (Sl TE w1 ko kc ks ∧ Keeps no w w1) := ⟨HS.out.1.keepsN h1.2, h1.2⟩
  clear h1 HK HS
  go_wp2_with fail
  go_loopw [7] (fun s wr => ∃ j : Nat, j ≤ m ∧ s = .int .i64 j ∧ wr = w1 ∧ Hid (inn (ks.take j) k = false)) (fun s _ => m - (intOf s).toNat)
  case atStart => exact ⟨0, by omega, rfl, rfl, by rfl⟩
  case round =>
    rename World => wr
    obtain ⟨j, hj, rfl, hwr, HI⟩ := hrel
    subst wr
    by_cases hlt : j < m
    · have hlt' : (j : Int) < m := by omega
      have hjk : j < ks.length := by rw [← HM.out]; exact hlt
      obtain ⟨b1, off1, rfl, d1⟩ := HS1.out.1.at hjk
      have HT : Hid (inn (ks.take (j + 1)) k = (inn (ks.take j) k || decide (ks.getD j e0 = k))) := by
        show _ = _
        rw [take_succ_getD ks j e0 hjk, Bool.eq_iff_iff, inn_iff, Bool.or_eq_true, inn_iff, decide_eq_true_eq, List.mem_append]
        simp [eq_comm]
      have HT2 : Hid (ks.getD j e0 = k → inn ks k = true) := fun e => by rw [inn_iff, ← e]; exact getD_mem_lt e0 hjk
      generalize ks.getD j e0 = x at d1 HT HT2
      have he := tx_eq x k
      by_cases hx : x = k
      · have hx2 : (x.toList == k.toList) = true := by rw [he]; exact decide_eq_true hx
        have HR : Hid (inn ks k = true) := HT2.out hx
        clear HT HT2 he hx
        go_wp2_with fail
        go_ret
        exact ⟨by rw [HR.out]; rfl, HS1.out.2⟩
      · have hx2 : (x.toList == k.toList) = false := by rw [he]; exact decide_eq_false hx
        have HX : Hid (inn (ks.take (j + 1)) k = false) := by show _ = _; rw [HT.out, HI.out, decide_eq_false hx]; rfl
        clear HT HT2 he hx
        go_wp2_with fail
        go_roundw
        case rel => exact ⟨j + 1, by omega, by go_num, trivial, HX⟩
        case measure => simp [intOf]; omega
    · have hlt' : ¬ (j : Int) < m := by omega
      have HR : Hid (inn ks k = false) := by
        have := HI.out
        rwa [List.take_of_length_le (by rw [← HM.out]; omega)] at this
      go_wp2_with fail
      go_ret
      exact ⟨by rw [HR.out]; rfl, HS1.out.2⟩
end Go.Proofs.Ytileipnoiocdlaa
