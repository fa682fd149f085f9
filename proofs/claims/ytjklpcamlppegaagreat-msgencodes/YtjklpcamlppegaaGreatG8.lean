/- The document's Body, Size, Encode. -/
import Derived.Test.YtjklpcamlppegaaGreatG7
namespace Go.Proofs.YtjklpcamlppegaaGreat
open Go.RowKit Go.Sort Orl Pk
set_option linter.unusedVariables false
set_option linter.unusedSimpArgs false

theorem Body_any (w : World) (k cl : Int) (q i : Nat) (op : Option Addr) (np cp : Nat) (ok : Option Addr) (nk ck : Nat) (ow : Option Addr) (nw cw : Nat) (ov : Option Addr) (nv cv : Nat) (rs : List RV) (m : Msg)
    (h : IsM w k cl q i op np cp ok nk ck ow nw cw ov nv cv rs m) (hm : may m = true) :
    Calls Tryz.prog 36 #[.agg #[.int .i64 k, .int .i64 cl, .int .u64 (q : Nat), .int .u64 (i : Nat), .slice op np cp, .slice ok nk ck, .slice ow nw cw, .slice ov nv cv]] w (TellsN w (body m)) := by
  have hkd := mayF_kind (may_F hm)
  have htop : 0 ≤ m.client ∧ m.client ≤ 15 := by unfold may topOk at hm; simp at hm; exact ⟨hm.1.1, hm.1.2.1⟩
  have HF := kinds m (may_F hm)
  rw [← h.k] at HF hkd
  rw [← h.cl] at htop
  rcases HF with ⟨g0, g1, g2, g3, g4, g5, g6, g7⟩ | ⟨g0, g1, g2, g3, g4, g5, g7⟩ | ⟨g0, g1, g2, g3, g4, g5, g6, g7⟩ | ⟨g0, g1, g2, g3, g4, g5, g6, g7⟩ | ⟨g0, g1, g2, g3, g4, g5, g6, g7⟩
  · exact Body_prep w k cl q i op np cp ok nk ck ow nw cw ov nv cv rs m h hkd htop ⟨g0, g6, g7⟩
  · exact Body_plain w k cl q i op np cp ok nk ck ow nw cw ov nv cv rs m h hkd htop ⟨g0, g7⟩
  · exact Body_latest w k cl q i op np cp ok nk ck ow nw cw ov nv cv rs m h hkd htop ⟨g0, g6, g7⟩
  · exact Body_byid w k cl q i op np cp ok nk ck ow nw cw ov nv cv rs m h hkd htop ⟨g0, g6, g7⟩
  · exact Body_vers w k cl q i op np cp ok nk ck ow nw cw ov nv cv rs m h hkd htop ⟨g0, g6, g7⟩

theorem body_all {m : Msg} (h : may m = true) : (body m).length ≤ 300000000 := by
  rw [body_len]
  rcases kinds m (may_F h) with ⟨_, _, _, _, _, _, g6, g7⟩ | ⟨_, _, _, _, _, _, g7⟩ | ⟨_, _, _, _, _, _, g6, g7⟩ | ⟨_, _, _, _, _, _, g6, g7⟩ | ⟨_, _, _, _, _, _, g6, g7⟩
  · rw [g7]; have := (valK_txs g6.1).all; have := layP_all g6.2; simp only [List.length_append, num_length, txts_length]; omega
  · rw [g7, num_length]; omega
  · rw [g7, txts_length]; have := (valK_txs g6).all; omega
  · rw [g7, List.length_append, num_length]; have := layW_all g6; omega
  · rw [g7]; have := layV_all (mayV_ok g6.2); omega

set_option maxRecDepth 10000 in
theorem refSize_any (w : World) (k cl : Int) (q i : Nat) (op : Option Addr) (np cp : Nat) (ok : Option Addr) (nk ck : Nat) (ow : Option Addr) (nw cw : Nat) (ov : Option Addr) (nv cv : Nat) (rs : List RV) (m : Msg)
    (h : IsM w k cl q i op np cp ok nk ck ow nw cw ov nv cv rs m) :
    Calls Tryz.prog 18 #[.agg #[.int .i64 k, .int .i64 cl, .int .u64 (q : Nat), .int .u64 (i : Nat), .slice op np cp, .slice ok nk ck, .slice ow nw cw, .slice ov nv cv]] w
      fun e w' => e = .returned (sizE m) ∧ Keeps no w w' := by
  have H : Hid (IsM w k cl q i op np cp ok nk ck ow nw cw ov nv cv rs m) := h
  clear h
  have hk0 : Keeps no w (w.alloc (.cells #[.int .i64 k, .int .i64 cl, .int .u64 (q : Nat), .int .u64 (i : Nat), .slice op np cp, .slice ok nk ck, .slice ow nw cw, .slice ov nv cv] 29)) := (Keeps.refl _ _).alloc _
  by_cases hm : may m = true
  · have HS : Hid (sizE m = .tuple #[.int .i64 ((body m).length : Int), .int .i64 0]) := by show _ = _; unfold sizE; rw [if_pos hm]
    generalize sizE m = SE at HS
    have HM : Hid (may m = true) := hm
    go_enter Tryz.func18, Tryz.ntmps18
    go_wp2_with fail
    refine (refMay_any _ k cl q i op np cp ok nk ck ow nw cw ov nv cv rs m (H.out.keepsN hk0)).mono ?_
    rintro e w1 ⟨rfl, hk1⟩
    rw [hm]
    clear hm
    obtain ⟨x0, x1, x2, x3, x4, x5, x6, x7⟩ := cells8 (hk1.at (blk_new w _) (fun h => h))
    go_wp2_with fail
    refine (Body_any w1 k cl q i op np cp ok nk ck ow nw cw ov nv cv rs m (H.out.keepsN (hk0.trans hk1)) HM.out).mono ?_
    rintro e w2 ⟨o2, n2, c2, rfl, hn2, hown2, hnew2, hk2⟩
    go_wp2
    go_ret2
    refine ⟨?_, (hk0.trans hk1).trans hk2⟩
    rw [HS.out, ← hn2.out]; rfl
  · have hm' : may m = false := by simpa using hm
    have HS : Hid (sizE m = .tuple #[.int .i64 0, .int .i64 1]) := by show _ = _; unfold sizE; rw [hm']; rfl
    generalize sizE m = SE at HS
    go_enter Tryz.func18, Tryz.ntmps18
    go_wp2_with fail
    refine (refMay_any _ k cl q i op np cp ok nk ck ow nw cw ov nv cv rs m (H.out.keepsN hk0)).mono ?_
    rintro e w1 ⟨rfl, hk1⟩
    rw [hm']
    go_wp2
    go_ret2
    exact ⟨by rw [HS.out]; rfl, hk0.trans hk1⟩

set_option maxRecDepth 10000 in
theorem refEncode_any (w : World) (k cl : Int) (q i : Nat) (op : Option Addr) (np cp : Nat) (ok : Option Addr) (nk ck : Nat) (ow : Option Addr) (nw cw : Nat) (ov : Option Addr) (nv cv : Nat) (rs : List RV) (m : Msg)
    (h : IsM w k cl q i op np cp ok nk ck ow nw cw ov nv cv rs m) :
    Calls Tryz.prog 17 #[.agg #[.int .i64 k, .int .i64 cl, .int .u64 (q : Nat), .int .u64 (i : Nat), .slice op np cp, .slice ok nk ck, .slice ow nw cw, .slice ov nv cv]] w (TellsB w (encB m) (encE m)) := by
  have H : Hid (IsM w k cl q i op np cp ok nk ck ow nw cw ov nv cv rs m) := h
  clear h
  have hk0 : Keeps no w (w.alloc (.cells #[.int .i64 k, .int .i64 cl, .int .u64 (q : Nat), .int .u64 (i : Nat), .slice op np cp, .slice ok nk ck, .slice ow nw cw, .slice ov nv cv] 29)) := (Keeps.refl _ _).alloc _
  by_cases hm : may m = true
  · have HM : Hid (may m = true) := hm
    have hall : Hid ((body m).length ≤ 300000000) := body_all hm
    go_enter Tryz.func17, Tryz.ntmps17
    go_wp2_with fail
    refine (refMay_any _ k cl q i op np cp ok nk ck ow nw cw ov nv cv rs m (H.out.keepsN hk0)).mono ?_
    rintro e w1 ⟨rfl, hk1⟩
    rw [hm]
    clear hm
    obtain ⟨x0, x1, x2, x3, x4, x5, x6, x7⟩ := cells8 (hk1.at (blk_new w _) (fun h => h))
    go_wp2_with fail
    refine (Body_any w1 k cl q i op np cp ok nk ck ow nw cw ov nv cv rs m (H.out.keepsN (hk0.trans hk1)) HM.out).mono ?_
    rintro e w2 ⟨o2, n2, c2, rfl, hn2, hown2, hnew2, hk2⟩
    have hk02 := (hk0.trans hk1).trans hk2
    have hn2b : n2 ≤ 300000000 := by rw [hn2.out]; exact hall.out
    by_cases hlong : 1048576 < n2
    · have hl' : (1048576 : Int) < (n2 : Int) := by omega
      have HE1 : Hid (encE m = 3 ∧ encB m = []) := encE_long HM.out (by rw [← hn2.out]; exact hlong)
      go_wp2
      go_ret2
      refine ⟨none, 0, 0, ?_, ?_, ?_, new_none _, hk02⟩
      · rw [HE1.out.1]; rfl
      · show _ = _; rw [HE1.out.2]; rfl
      · rw [HE1.out.2]; exact owns_nil _
    · have hl' : ¬ (1048576 : Int) < (n2 : Int) := by omega
      have HE1 : Hid (encE m = 0 ∧ encB m = enc m) := encE_ok HM.out (by rw [← hn2.out]; omega)
      go_wp2_with fail
      refine (num4_any w2 n2 (by omega)).mono ?_
      rintro e w3 ⟨o3, n3, c3, rfl, hn3, hown3, hnew3, hk3⟩
      have HS3 : Hid (Has w2 o3 n3 c3 (num 4 n2) w3) := ⟨hown3, hn3.out, hnew3, hk3⟩
      have hn3b : n3 = 4 := by rw [hn3.out, num_length]
      subst hn3b
      go_wp2_with (at_builtin; go_must (refine wpList_has rfl _ _ rfl rfl HS3.out rfl hn2.out (hown2.keepsN' hk3) (body_byt m) (Keeps.refl no w3) (by omega) ?_); intro o4 c4 w4 h4)
      go_ret2
      refine ⟨o4, 4 + n2, c4, ?_, ?_, ?_, h4.new.of_le hk02.size, hk02.trans h4.kp⟩
      · rw [HE1.out.1]; rfl
      · show _ = _; rw [HE1.out.2]; unfold enc; rw [← hn2.out]; exact h4.n
      · rw [HE1.out.2]; unfold enc; rw [← hn2.out]; exact h4.own
  · have hm' : may m = false := by simpa using hm
    have HE1 : Hid (encE m = 1 ∧ encB m = []) := encE_bad hm'
    go_enter Tryz.func17, Tryz.ntmps17
    go_wp2_with fail
    refine (refMay_any _ k cl q i op np cp ok nk ck ow nw cw ov nv cv rs m (H.out.keepsN hk0)).mono ?_
    rintro e w1 ⟨rfl, hk1⟩
    rw [hm']
    go_wp2
    go_ret2
    refine ⟨none, 0, 0, ?_, ?_, ?_, new_none _, hk0.trans hk1⟩
    · rw [HE1.out.1]; rfl
    · show _ = _; rw [HE1.out.2]; rfl
    · rw [HE1.out.2]; exact owns_nil _
end Go.Proofs.YtjklpcamlppegaaGreat
