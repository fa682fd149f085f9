/- The program's Encode. -/
import Derived.Test.YtjklpcamlppegaaGreatP4
namespace Go.Proofs.YtjklpcamlppegaaGreat
open Go.RowKit Go.Sort Orl Pk
set_option linter.unusedVariables false
set_option linter.unusedSimpArgs false

def encE (m : Msg) : Nat := if may m = true then (if (body m).length ≤ 1048576 then 0 else 3) else 1
def encB (m : Msg) : List Nat := if encE m = 0 then enc m else []
theorem encE_bad {m : Msg} (h : may m = false) : encE m = 1 ∧ encB m = [] := by
  have : encE m = 1 := by unfold encE; rw [if_neg (by rw [h]; simp)]
  exact ⟨this, by unfold encB; rw [if_neg (by omega)]⟩
theorem encE_long {m : Msg} (h : may m = true) (hl : 1048576 < (body m).length) : encE m = 3 ∧ encB m = [] := by
  have : encE m = 3 := by unfold encE; rw [if_pos h, if_neg (by omega)]
  exact ⟨this, by unfold encB; rw [if_neg (by omega)]⟩
theorem encE_ok {m : Msg} (h : may m = true) (hl : (body m).length ≤ 1048576) : encE m = 0 ∧ encB m = enc m := by
  have : encE m = 0 := by unfold encE; rw [if_pos h, if_pos hl]
  exact ⟨this, by unfold encB; rw [if_pos this]⟩
/-- bytes told with an error, in new memory -/
def TellsB (w : World) (bs : List Nat) (E : Nat) (e : Ending) (w' : World) : Prop :=
  ∃ o n c, e = .returned (.tuple #[.slice o n c, .int .i64 (E : Nat)]) ∧ Hid (n = bs.length) ∧ Owns w' o c bs ∧ New w o ∧ Keeps no w w'

theorem newWriter_at (w : World) : Calls Tryz.prog 28 #[.int .i64 1048576] w fun e w' => e = .returned (.pointer (some ⟨w.heap.size, 0, none⟩)) ∧ IsW 84 w' w.heap.size none 0 Lm [] 0 ∧ Keeps no w w' :=
  newWriter_any 1048576 w (by omega) (by omega)

set_option maxRecDepth 10000 in
theorem Encode_any (w : World) (k cl : Int) (q i : Nat) (op : Option Addr) (np cp : Nat) (ok : Option Addr) (nk ck : Nat) (ow : Option Addr) (nw cw : Nat) (ov : Option Addr) (nv cv : Nat) (rs : List RV) (m : Msg)
    (h : IsM w k cl q i op np cp ok nk ck ow nw cw ov nv cv rs m) :
    Calls Tryz.prog 10 #[.agg #[.int .i64 k, .int .i64 cl, .int .u64 (q : Nat), .int .u64 (i : Nat), .slice op np cp, .slice ok nk ck, .slice ow nw cw, .slice ov nv cv]] w (TellsB w (encB m) (encE m)) := by
  have H : Hid (IsM w k cl q i op np cp ok nk ck ow nw cw ov nv cv rs m) := h
  clear h
  have hk0 : Keeps no w (w.alloc (.cells #[.int .i64 k, .int .i64 cl, .int .u64 (q : Nat), .int .u64 (i : Nat), .slice op np cp, .slice ok nk ck, .slice ow nw cw, .slice ov nv cv] 29)) := (Keeps.refl _ _).alloc _
  by_cases hm : may m = true
  · go_enter Tryz.func10, Tryz.ntmps10
    go_wp2_with fail
    refine (May_any _ k cl q i op np cp ok nk ck ow nw cw ov nv cv rs m (H.out.keepsN hk0)).mono ?_
    rintro e w1 ⟨rfl, hk1⟩
    rw [hm]
    have HM : Hid (may m = true) := hm
    clear hm
    have hb1 := hk1.at (blk_new w _) (fun h => h)
    have hk01 := hk0.trans hk1
    go_wp2_with fail
    refine (newWriter_at w1).mono ?_
    rintro e w2 ⟨rfl, hW, hk2⟩
    have hb2 := hk2.at hb1 (fun h => h)
    obtain ⟨x0, x1, x2, x3, x4, x5, x6, x7⟩ := cells8 hb2
    go_wp2_with fail
    refine (lay_any w1 w2 w1.heap.size 0 hW hk2 (Nat.le_refl _) k cl q i op np cp ok nk ck ow nw cw ov nv cv rs m (H.out.keepsN hk01) HM.out).mono ?_
    rintro e w3 ⟨rfl, l, hl, hw3⟩
    clear x0 x1 x2 x3 x4 x5 x6 x7 hb1 hb2 hW
    obtain ⟨o3, c3, hW3, hF3, hK3⟩ := hw3
    have hk3 : Keeps no w w3 := (hk01.trans hk2).then hK3 (by
      rintro j (rfl | ⟨x, e, _⟩)
      · exact .inr hk01.size
      · cases e)
    go_wp2_with fail
    refine (wOut_any w3 _ o3 c3 Lm _ _ hW3).mono ?_
    rintro e w4 ⟨hk4, ⟨he, rfl⟩ | ⟨he, o4, c4, rfl, hown4, hnew4⟩⟩
    · have hlong : Lm < (body m).length := by
        rcases Nat.lt_or_ge Lm (body m).length with h | h
        · exact h
        · rw [lays_all l [] (by rw [hl]; simpa using h)] at he
          exact absurd rfl he
      have h3 : (lays ([], 0) l).2 = 3 := lays_long l [] (by simp) (by rw [hl]; simpa using hlong)
      rw [h3]
      obtain ⟨e1, e2⟩ := encE_long HM.out (by unfold Lm at hlong; exact hlong)
      have HE1 : Hid (encE m = 3 ∧ encB m = []) := ⟨e1, e2⟩
      clear hlong h3 he e1 e2 hW3 hl hK3 hF3
      go_wp2
      go_ret2
      refine ⟨none, 0, 0, ?_, ?_, ?_, new_none _, hk3.trans hk4⟩
      · rw [HE1.out.1]; rfl
      · show _ = _; rw [HE1.out.2]; rfl
      · rw [HE1.out.2]; exact owns_nil _
    · have hfit : (body m).length ≤ Lm := by
        rcases Nat.lt_or_ge Lm (body m).length with h | h
        · have := lays_long l [] (by simp) (by rw [hl]; simpa using h)
          rw [this] at he; cases he
        · exact h
      have hst : lays ([], 0) l = (body m, 0) := by rw [lays_all l [] (by rw [hl]; simpa using hfit), hl]; rfl
      rw [hst] at hown4 ⊢
      simp only at hown4 ⊢
      obtain ⟨e1, e2⟩ := encE_ok HM.out (by unfold Lm at hfit; exact hfit)
      have HE1 : Hid (encE m = 0 ∧ encB m = enc m) := ⟨e1, e2⟩
      obtain ⟨n4, hn4⟩ : ∃ n, n = (body m).length := ⟨_, rfl⟩
      rw [← hn4]
      have HN4 : Hid (n4 = (body m).length) := hn4
      have hn4b : (n4 : Int) ≤ 1048576 := by unfold Lm at hfit; omega
      have HO4 : Hid (Owns w4 o4 c4 (body m)) := hown4
      clear hfit hst he e1 e2 hW3 hl hK3 hF3 hn4 hown4
      go_wp2_with fail
      refine (build_any w4 o4 n4 c4 (body m) HN4.out HO4.out (body_byt m) hn4b).mono ?_
      rintro e w5 ⟨o5, n5, c5, rfl, hn5, hown5, hnew5, hk5⟩
      go_wp2
      go_ret2
      have hk04 := hk3.trans hk4
      refine ⟨o5, n5, c5, ?_, ?_, ?_, hnew5.of_le hk04.size, hk04.trans hk5⟩
      · rw [HE1.out.1]; rfl
      · show _ = _; rw [HE1.out.2, enc_length, hn5.out, HN4.out]; omega
      · rw [HE1.out.2]; unfold enc; rw [← HN4.out]; exact hown5
  · have hm' : may m = false := by simpa using hm
    have HE1 : Hid (encE m = 1 ∧ encB m = []) := encE_bad hm'
    go_enter Tryz.func10, Tryz.ntmps10
    go_wp2_with fail
    refine (May_any _ k cl q i op np cp ok nk ck ow nw cw ov nv cv rs m (H.out.keepsN hk0)).mono ?_
    rintro e w1 ⟨rfl, hk1⟩
    rw [hm']
    go_wp2
    go_ret2
    refine ⟨none, 0, 0, ?_, ?_, ?_, new_none _, hk0.trans hk1⟩
    · rw [HE1.out.1]; rfl
    · show _ = _; rw [HE1.out.2]; rfl
    · rw [HE1.out.2]; exact owns_nil _
end Go.Proofs.YtjklpcamlppegaaGreat
