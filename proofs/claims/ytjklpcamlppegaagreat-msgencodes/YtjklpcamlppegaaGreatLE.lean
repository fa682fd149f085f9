/- MsgEncodes: its walk. -/
import Derived.Test.YtjklpcamlppegaaGreatG8
namespace Go.Proofs.YtjklpcamlppegaaGreat
open Go.RowKit Go.Sort Orl Pk
set_option linter.unusedVariables false
set_option linter.unusedSimpArgs false

theorem sizE_two (m : Msg) : ∃ (S : Nat) (E : Nat), sizE m = .tuple #[.int .i64 (S : Nat), .int .i64 (E : Nat)] := by
  unfold sizE
  split
  · exact ⟨_, 0, rfl⟩
  · exact ⟨0, 1, rfl⟩
theorem encB_byt (m : Msg) : ∀ c ∈ encB m, c < 256 := by
  unfold encB
  split
  · exact app_lt (num_lt _ _) (body_byt m)
  · intro c hc; cases hc
theorem encB_len (m : Msg) : (encB m).length ≤ 1048580 := by
  unfold encB
  split
  · rename_i h
    rw [enc_length]
    unfold encE at h
    split at h
    · split at h
      · omega
      · cases h
    · cases h
  · simp

set_option maxRecDepth 20000 in
set_option maxHeartbeats 4000000 in
theorem msgEncodes_any (w : World) (k cl : Int) (q i : Nat) (op : Option Addr) (np cp : Nat) (ok : Option Addr) (nk ck : Nat) (ow : Option Addr) (nw cw : Nat) (ov : Option Addr) (nv cv : Nat) (rs : List RV) (m : Msg)
    (h : IsM w k cl q i op np cp ok nk ck ow nw cw ov nv cv rs m) :
    Calls Tryz.prog 4 #[.agg #[.int .i64 k, .int .i64 cl, .int .u64 (q : Nat), .int .u64 (i : Nat), .slice op np cp, .slice ok nk ck, .slice ow nw cw, .slice ov nv cv]] w
      fun e w' => e = .returned (.bool true) ∧ Keeps no w w' := by
  have H : Hid (IsM w k cl q i op np cp ok nk ck ow nw cw ov nv cv rs m) := h
  clear h
  have hk0 : Keeps no w (w.alloc (.cells #[.int .i64 k, .int .i64 cl, .int .u64 (q : Nat), .int .u64 (i : Nat), .slice op np cp, .slice ok nk ck, .slice ow nw cw, .slice ov nv cv] 29)) := (Keeps.refl _ _).alloc _
  obtain ⟨S, E, hSE⟩ := sizE_two m
  obtain ⟨E2, hE2⟩ : ∃ E, E = encE m := ⟨_, rfl⟩
  have HE2 : Hid (E2 = encE m) := hE2
  obtain ⟨B2, hB2⟩ : ∃ E, E = encB m := ⟨_, rfl⟩
  have HBY : Hid ((∀ c ∈ B2, c < 256) ∧ B2.length ≤ 1048580) := by rw [hB2]; exact ⟨encB_byt m, encB_len m⟩
  obtain ⟨My, hMy⟩ : ∃ B, B = may m := ⟨_, rfl⟩
  have HC1 : Hid (∀ w', Keeps no w w' → Calls Tryz.prog 10 #[.agg #[.int .i64 k, .int .i64 cl, .int .u64 (q : Nat), .int .u64 (i : Nat), .slice op np cp, .slice ok nk ck, .slice ow nw cw, .slice ov nv cv]] w' (TellsB w' B2 E2)) := fun w' hk => by rw [hB2, hE2]; exact Encode_any w' k cl q i op np cp ok nk ck ow nw cw ov nv cv rs m (H.out.keepsN hk)
  have HC2 : Hid (∀ w', Keeps no w w' → Calls Tryz.prog 17 #[.agg #[.int .i64 k, .int .i64 cl, .int .u64 (q : Nat), .int .u64 (i : Nat), .slice op np cp, .slice ok nk ck, .slice ow nw cw, .slice ov nv cv]] w' (TellsB w' B2 E2)) := fun w' hk => by rw [hB2, hE2]; exact refEncode_any w' k cl q i op np cp ok nk ck ow nw cw ov nv cv rs m (H.out.keepsN hk)
  have HC3 : Hid (∀ w', Keeps no w w' → Calls Tryz.prog 9 #[.agg #[.int .i64 k, .int .i64 cl, .int .u64 (q : Nat), .int .u64 (i : Nat), .slice op np cp, .slice ok nk ck, .slice ow nw cw, .slice ov nv cv]] w' fun e w'' => e = .returned (.tuple #[.int .i64 (S : Nat), .int .i64 (E : Nat)]) ∧ Keeps no w' w'') := fun w' hk => by rw [← hSE]; exact Size_any w' k cl q i op np cp ok nk ck ow nw cw ov nv cv rs m (H.out.keepsN hk)
  have HC4 : Hid (∀ w', Keeps no w w' → Calls Tryz.prog 18 #[.agg #[.int .i64 k, .int .i64 cl, .int .u64 (q : Nat), .int .u64 (i : Nat), .slice op np cp, .slice ok nk ck, .slice ow nw cw, .slice ov nv cv]] w' fun e w'' => e = .returned (.tuple #[.int .i64 (S : Nat), .int .i64 (E : Nat)]) ∧ Keeps no w' w'') := fun w' hk => by rw [← hSE]; exact refSize_any w' k cl q i op np cp ok nk ck ow nw cw ov nv cv rs m (H.out.keepsN hk)
  have HC5 : Hid (∀ w', Keeps no w w' → Calls Tryz.prog 8 #[.agg #[.int .i64 k, .int .i64 cl, .int .u64 (q : Nat), .int .u64 (i : Nat), .slice op np cp, .slice ok nk ck, .slice ow nw cw, .slice ov nv cv]] w' fun e w'' => e = .returned (.bool My) ∧ Keeps no w' w'') := fun w' hk => by rw [hMy]; exact May_any w' k cl q i op np cp ok nk ck ow nw cw ov nv cv rs m (H.out.keepsN hk)
  have HC6 : Hid (∀ w', Keeps no w w' → Calls Tryz.prog 19 #[.agg #[.int .i64 k, .int .i64 cl, .int .u64 (q : Nat), .int .u64 (i : Nat), .slice op np cp, .slice ok nk ck, .slice ow nw cw, .slice ov nv cv]] w' fun e w'' => e = .returned (.bool My) ∧ Keeps no w' w'') := fun w' hk => by rw [hMy]; exact refMay_any w' k cl q i op np cp ok nk ck ow nw cw ov nv cv rs m (H.out.keepsN hk)
  clear hB2 hE2 hMy hSE
  have hB0 := blk_new w (.cells #[.int .i64 k, .int .i64 cl, .int .u64 (q : Nat), .int .u64 (i : Nat), .slice op np cp, .slice ok nk ck, .slice ow nw cw, .slice ov nv cv] 29)
  go_enter Tryz.func4, Tryz.ntmps4
  go_wp2_with fail
  refine (HC1.out _ hk0).mono ?_
  rintro e w1 ⟨o1, n1, c1, rfl, hn1, hown1, hnew1, hk1⟩
  have hk01 := hk0.trans hk1
  have hB1 := hk1.at hB0 (fun h => h)
  obtain ⟨A, hA⟩ : ∃ A, A = w.heap.size := ⟨_, rfl⟩
  rw [← hA] at hB1 ⊢
  clear hA hB0
  obtain ⟨x0, x1, x2, x3, x4, x5, x6, x7⟩ := cells8 hB1
  go_wp2_with fail
  refine (HC2.out _ hk01).mono ?_
  rintro e w2 ⟨o2, n2, c2, rfl, hn2, hown2, hnew2, hk2⟩
  have hk02 := hk01.trans hk2
  have hB2 := hk2.at hB1 (fun h => h)
  clear x0 x1 x2 x3 x4 x5 x6 x7
  obtain ⟨x0, x1, x2, x3, x4, x5, x6, x7⟩ := cells8 hB2
  go_wp2_with fail
  refine (HC3.out _ hk02).mono ?_
  rintro e w3 ⟨rfl, hk3⟩
  have hk03 := hk02.trans hk3
  have hB3 := hk3.at hB2 (fun h => h)
  clear x0 x1 x2 x3 x4 x5 x6 x7
  obtain ⟨x0, x1, x2, x3, x4, x5, x6, x7⟩ := cells8 hB3
  go_wp2_with fail
  refine (HC4.out _ hk03).mono ?_
  rintro e w4 ⟨rfl, hk4⟩
  have hk04 := hk03.trans hk4
  have hB4 := hk4.at hB3 (fun h => h)
  clear x0 x1 x2 x3 x4 x5 x6 x7
  obtain ⟨x0, x1, x2, x3, x4, x5, x6, x7⟩ := cells8 hB4
  have HB4 : Hid (w4.heap[A]? = some (.cells #[.int .i64 k, .int .i64 cl, .int .u64 (q : Nat), .int .u64 (i : Nat), .slice op np cp, .slice ok nk ck, .slice ow nw cw, .slice ov nv cv] 29 (0, 0))) := hB4
  have HK04 : Hid (Keeps no w w4) := hk04
  have HR1 : Hid (∀ w', Keeps no w4 w' → BRow w' o1 B2) := fun w' hk => (hown1.row HBY.out.1 (by have := HBY.out.2; omega)).keeps (((hk2.trans hk3).trans hk4).trans hk) (fun _ _ h => h)
  have HR2 : Hid (∀ w', Keeps no w4 w' → BRow w' o2 B2) := fun w' hk => (hown2.row HBY.out.1 (by have := HBY.out.2; omega)).keeps ((hk3.trans hk4).trans hk) (fun _ _ h => h)
  clear hB1 hB2 hB3 hB4 hk1 hk2 hk3 hk4 hk01 hk02 hk03 hk04 hown1 hown2 hk0 hnew1 hnew2
  go_wp2_with fail
  go_region_held3 (fun w' => w'.cell? ⟨A, 0, none⟩ = some (.int .i64 k) ∧ w'.cell? ⟨A, 1, none⟩ = some (.int .i64 cl) ∧ w'.cell? ⟨A, 2, none⟩ = some (.int .u64 (q : Nat)) ∧ w'.cell? ⟨A, 3, none⟩ = some (.int .u64 (i : Nat)) ∧ w'.cell? ⟨A, 4, none⟩ = some (.slice op np cp) ∧ w'.cell? ⟨A, 5, none⟩ = some (.slice ok nk ck) ∧ w'.cell? ⟨A, 6, none⟩ = some (.slice ow nw cw) ∧ w'.cell? ⟨A, 7, none⟩ = some (.slice ov nv cv)) (go_keep) ((first | (go_at_call 7; refine (known_any _).mono ?_; rintro e w5 ⟨rfl, hk5⟩; have K5 : Hid (Keeps no w4 w5) := (Keeps.refl no w4).drew.trans hk5; clear hk5; obtain ⟨x0, x1, x2, x3, x4, x5, x6, x7⟩ := cells8 (K5.out.at HB4.out (fun h => h))) | (go_at_call 8; refine (HC5.out _ (HK04.out.trans K5.out)).mono ?_; rintro e w6 ⟨rfl, hk6⟩; have K6 : Hid (Keeps no w4 w6) := K5.out.trans hk6; clear hk6; obtain ⟨x0, x1, x2, x3, x4, x5, x6, x7⟩ := cells8 (K6.out.at HB4.out (fun h => h))) | (go_at_call 19; refine (HC6.out _ (HK04.out.trans K6.out)).mono ?_; rintro e w7 ⟨rfl, hk7⟩; have K7 : Hid (Keeps no w4 w7) := K6.out.trans hk7; clear hk7; obtain ⟨x0, x1, x2, x3, x4, x5, x6, x7⟩ := cells8 (K7.out.at HB4.out (fun h => h))) | (go_at_call 12; refine (same_bytes _ o1 n1 c1 o2 n2 c2 B2 B2 hn1.out hn2.out (HR1.out _ K7.out) (HR2.out _ K7.out)).mono ?_; rw [decide_eq_true rfl]; rintro e w8 ⟨rfl, h8⟩; subst w8)))
  all_goals go_wp2_with fail
  all_goals go_ret
  all_goals exact ⟨by simp, HK04.out.trans K7.out⟩
end Go.Proofs.YtjklpcamlppegaaGreat
