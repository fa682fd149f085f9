/- The program's headOf and Build. -/
import Derived.Test.YtgamhblkgojapaaGreatDoorC3
namespace Go.Proofs.YtgamhblkgojapaaGreatDoor
open Go.RowKit Go.Sort Orl Pk
set_option linter.unusedVariables false
set_option linter.unusedSimpArgs false

def hd (p : List Nat) : List Nat := num 4 p.length ++ num 4 (Crc.sum p)
theorem hd_length (p : List Nat) : (hd p).length = 8 := by unfold hd; rw [List.length_append, num_length, num_length]
theorem newW (w : World) : Calls Tryz.prog 62 #[.int .i64 8] w fun e w' => e = .returned (.pointer (some ⟨w.heap.size, 0, none⟩)) ∧ IsW 132 w' w.heap.size none 0 8 [] 0 ∧ Keeps no w w' :=
  newWriter_any 8 w (by omega) (by omega)
theorem newWriter_at (w : World) : Calls Tryz.prog 62 #[.int .i64 1048576] w fun e w' => e = .returned (.pointer (some ⟨w.heap.size, 0, none⟩)) ∧ IsW 132 w' w.heap.size none 0 Lm [] 0 ∧ Keeps no w w' :=
  newWriter_any 1048576 w (by omega) (by omega)

set_option maxRecDepth 10000 in
theorem headOf_any (w : World) (o : Option Addr) (n c : Nat) (p : List Nat) (hn : n = p.length) (hO : BRow w o p) (hnb : (n : Int) ≤ 1048576) (ht : TabIn w) :
    Calls Tryz.prog 65 #[.slice o n c] w fun e w' => ∃ o' c', e = .returned (.slice o' 8 c') ∧ Owns w' o' c' (hd p) ∧ New w o' ∧ Keeps no w w' := by
  have HN : Hid (n = p.length) := hn
  have hconv : ((n : Int) % 4294967296) = (n : Int) := by omega
  have hslt : Crc.sum p < 4294967296 := Crc.update_lt 0 _ (by decide) hO.1
  have h8 : (8 : Nat) ≤ 140737488355328 := by omega
  clear hn
  go_enter Tryz.func65, Tryz.ntmps65
  go_wp2_with fail
  refine (newW w).mono ?_
  rintro e w1 ⟨rfl, hW1, hk1⟩
  have HK1 : Hid (Keeps no w w1) := hk1
  go_wp2_with fail
  try rw [hconv]
  refine (wsU32 h8 (WStep.start hW1) n (by omega)).mono ?_
  rintro e w2 ⟨rfl, h2, _⟩
  have hk2 : Keeps no w w2 := hk1.then h2.keeps (by
    rintro j (rfl | ⟨x, e, _⟩)
    · exact .inr (Nat.le_refl _)
    · cases e)
  have HK2 : Hid (Keeps no w w2) := hk2
  have H2 : Hid (WStep 132 w1 w.heap.size none 8 (num 4 n, 0) w2) := by
    have : lay 8 ([], 0) (num 4 n) = (num 4 n, 0) := by rw [lay_fits _ _ _ (by rw [num_length]; simp)]; simp
    rw [this] at h2; exact h2
  have HT2 : Hid (TabIn w2) := ht.keepsN hk2
  have HR2 : Hid (BRow w2 o p) := hO.keeps hk2 (fun _ _ h => h)
  clear h2 hW1 hk1 hk2
  go_wp2_with fail
  refine (sum_any o n p c HN.out w2 HT2.out HR2.out).mono ?_
  rintro e w' ⟨rfl, hw'⟩
  subst w'
  obtain ⟨S, hS⟩ : ∃ S, S = Crc.sum p := ⟨_, rfl⟩
  rw [← hS] at hslt ⊢
  have HS : Hid (S = Crc.sum p) := hS
  clear hS
  go_wp2_with fail
  refine (wsU32 h8 H2.out S hslt).mono ?_
  rintro e w3 ⟨rfl, h3, _⟩
  have HW3 : Hid (WStep 132 w1 w.heap.size none 8 (hd p, 0) w3) := by
    have : lay 8 (num 4 n, 0) (num 4 S) = (hd p, 0) := by rw [lay_fits _ _ _ (by rw [num_length, num_length]; omega), HN.out, HS.out]; rfl
    rw [this] at h3; exact h3
  clear h3
  obtain ⟨o3, c3, hW3, hF3, hK3⟩ := HW3.out
  have HK3 : Hid (Keeps no w w3) := HK1.out.then hK3 (by
    rintro j (rfl | ⟨x, e, _⟩)
    · exact .inr (Nat.le_refl _)
    · cases e)
  clear HW3 hF3 hK3
  go_wp2_with fail
  refine (wOut_any w3 _ o3 c3 8 _ _ hW3).mono ?_
  rintro e w4 ⟨hk4, ⟨he, rfl⟩ | ⟨he, o4, c4, rfl, hown4, hnew4⟩⟩
  · exact absurd rfl he
  · rw [hd_length]
    obtain ⟨g, rfl⟩ : ∃ g, o4 = some ⟨g, 0, none⟩ := by
      rcases hown4.shape with ⟨_, _, e⟩ | ⟨g, _, e, _⟩
      · have := hd_length p; rw [e] at this; simp at this
      · exact ⟨g, e⟩
    have HO4 : Hid (Owns w4 (some ⟨g, 0, none⟩) c4 (hd p)) := hown4
    have HK4 : Hid (Keeps no w w4) := HK3.out.trans hk4
    have HG : Hid (w.heap.size ≤ g) := Nat.le_trans HK3.out.size (hnew4 g ⟨_, rfl, rfl⟩)
    clear hown4 hW3 hnew4 hk4 he
    go_wp2_with fail
    refine (grow_any w4 g 8 c4 (hd p) n (by rw [hd_length]) HO4.out hnb (by omega)).mono ?_
    rintro e w5 ⟨o5, c5, rfl, hown5, hfr5, hk5⟩
    go_wp2_with fail
    go_ret
    refine ⟨o5, c5, rfl, hown5, ?_, HK4.out.trans hk5⟩
    rcases hfr5 with rfl | ⟨g', rfl, hg'⟩
    · rintro k ⟨x, e, rfl⟩; cases e; exact HG.out
    · rintro k ⟨x, e, rfl⟩; cases e; exact Nat.le_trans HK4.out.size hg'

def encE (r : Rec) : Nat := if may r = true then (if (body r).length ≤ 1048576 then 0 else 3) else 1
def encB (r : Rec) : List Nat := if encE r = 0 then enc r else []
theorem encE_bad {m : Rec} (h : may m = false) : encE m = 1 ∧ encB m = [] := by
  have : encE m = 1 := by unfold encE; rw [if_neg (by rw [h]; simp)]
  exact ⟨this, by unfold encB; rw [if_neg (by omega)]⟩
theorem encE_long {m : Rec} (h : may m = true) (hl : 1048576 < (body m).length) : encE m = 3 ∧ encB m = [] := by
  have : encE m = 3 := by unfold encE; rw [if_pos h, if_neg (by omega)]
  exact ⟨this, by unfold encB; rw [if_neg (by omega)]⟩
theorem encE_ok {m : Rec} (h : may m = true) (hl : (body m).length ≤ 1048576) : encE m = 0 ∧ encB m = enc m := by
  have : encE m = 0 := by unfold encE; rw [if_pos h, if_pos hl]
  exact ⟨this, by unfold encB; rw [if_pos this]⟩
/-- bytes told with an error, in new memory -/
def TellsB (w : World) (bs : List Nat) (E : Nat) (e : Ending) (w' : World) : Prop :=
  ∃ o n c, e = .returned (.tuple #[.slice o n c, .int .i64 (E : Nat)]) ∧ Hid (n = bs.length) ∧ Owns w' o c bs ∧ New w o ∧ Keeps no w w'

set_option maxRecDepth 10000 in
theorem Build_any (w : World) (k : Int) (i : Nat) (op : Option Addr) (np cp : Nat) (ok : Option Addr) (nk ck : Nat) (r : Rec) (h : IsC w ⟨k, i, op, np, cp, ok, nk, ck⟩ r) (ht : TabIn w) :
    Calls Tryz.prog 40 #[.agg #[.int .i64 k, .int .u64 (i : Nat), .slice op np cp, .slice ok nk ck]] w (TellsB w (encB r) (encE r)) := by
  have H : Hid (IsC w ⟨k, i, op, np, cp, ok, nk, ck⟩ r) := h
  clear h
  have hk0 : Keeps no w (w.alloc (.cells #[.int .i64 k, .int .u64 (i : Nat), .slice op np cp, .slice ok nk ck] 41)) := (Keeps.refl _ _).alloc _
  by_cases hm : may r = true
  · go_enter Tryz.func40, Tryz.ntmps40
    go_wp2_with fail
    refine (May_any _ k i op np cp ok nk ck r (H.out.keepsN hk0)).mono ?_
    rintro e w1 ⟨rfl, hk1⟩
    rw [hm]
    have HM : Hid (may r = true) := hm
    clear hm
    have hb1 := hk1.at (blk_new w _) (fun h => h)
    have hk01 := hk0.trans hk1
    go_wp2_with fail
    refine (newWriter_at w1).mono ?_
    rintro e w2 ⟨rfl, hW, hk2⟩
    have hb2 := hk2.at hb1 (fun h => h)
    obtain ⟨x0, x1, x2, x3⟩ := cells4 hb2
    go_wp2_with fail
    refine (lay_any w1 w2 w1.heap.size 0 hW hk2 (Nat.le_refl _) k i op np cp ok nk ck r (H.out.keepsN hk01) HM.out).mono ?_
    rintro e w3 ⟨rfl, l, hl, hw3⟩
    clear x0 x1 x2 x3 hb1 hb2 hW
    obtain ⟨o3, c3, hW3, hF3, hK3⟩ := hw3
    have hk3 : Keeps no w w3 := (hk01.trans hk2).then hK3 (by
      rintro j (rfl | ⟨x, e, _⟩)
      · exact .inr hk01.size
      · cases e)
    go_wp2_with fail
    refine (wOut_any w3 _ o3 c3 Lm _ _ hW3).mono ?_
    rintro e w4 ⟨hk4, ⟨he, rfl⟩ | ⟨he, o4, c4, rfl, hown4, hnew4⟩⟩
    · have hlong : Lm < (body r).length := by
        rcases Nat.lt_or_ge Lm (body r).length with h | h
        · exact h
        · rw [lays_all Lm l [] (by rw [hl]; simpa using h)] at he
          exact absurd rfl he
      have h3 : (lays Lm ([], 0) l).2 = 3 := lays_long Lm l [] (by simp) (by rw [hl]; simpa using hlong)
      rw [h3]
      obtain ⟨e1, e2⟩ := encE_long HM.out (by unfold Lm at hlong; exact hlong)
      have HE1 : Hid (encE r = 3 ∧ encB r = []) := ⟨e1, e2⟩
      clear hlong h3 he e1 e2 hW3 hl hK3 hF3
      go_wp2_with fail
      go_ret2
      refine ⟨none, 0, 0, ?_, ?_, ?_, new_none _, hk3.trans hk4⟩
      · rw [HE1.out.1]; rfl
      · show _ = _; rw [HE1.out.2]; rfl
      · rw [HE1.out.2]; exact owns_nil _
    · have hfit : (body r).length ≤ Lm := by
        rcases Nat.lt_or_ge Lm (body r).length with h | h
        · have := lays_long Lm l [] (by simp) (by rw [hl]; simpa using h)
          rw [this] at he; cases he
        · exact h
      have hst : lays Lm ([], 0) l = (body r, 0) := by rw [lays_all Lm l [] (by rw [hl]; simpa using hfit), hl]; rfl
      rw [hst] at hown4 ⊢
      simp only at hown4 ⊢
      obtain ⟨e1, e2⟩ := encE_ok HM.out (by unfold Lm at hfit; exact hfit)
      have HE1 : Hid (encE r = 0 ∧ encB r = enc r) := ⟨e1, e2⟩
      obtain ⟨n4, hn4⟩ : ∃ n, n = (body r).length := ⟨_, rfl⟩
      rw [← hn4]
      have HN4 : Hid (n4 = (body r).length) := hn4
      have hn4b : (n4 : Int) ≤ 1048576 := by unfold Lm at hfit; omega
      have HO4 : Hid (Owns w4 o4 c4 (body r)) := hown4
      have HK4 : Hid (Keeps no w w4) := hk3.trans hk4
      have HR4 : Hid (BRow w4 o4 (body r)) := HO4.out.row (body_byt r) (by have := HN4.out; omega)
      clear hfit hst he e1 e2 hW3 hl hK3 hF3 hn4 hown4 hk0 hk1 hk01 hk2 hk3 hk4 hnew4
      go_wp2_with fail
      refine (headOf_any w4 o4 n4 c4 (body r) HN4.out HR4.out hn4b (ht.keepsN HK4.out)).mono ?_
      rintro e w5 ⟨o5, c5, rfl, hown5, hnew5, hk5⟩
      have HO5 : Hid (Owns w5 o5 c5 (hd (body r))) := hown5
      have HK5 : Hid (New w o5 ∧ Keeps no w w5) := ⟨hnew5.of_le HK4.out.size, HK4.out.trans hk5⟩
      have HR5 : Hid (BRow w5 o4 (body r)) := HR4.out.keeps hk5 (fun _ _ h => h)
      clear hown5 hnew5 hk5
      go_wp2_with (at_builtin; go_must (refine wpList_appB rfl _ _ rfl o5 8 c5 (hd (body r)) rfl (hd_length _).symm HO5.out o4 n4 c4 (body r) rfl HN4.out HO4.out.cap.2 HR5.out (by omega) ?_); intro o6 c6 w6 ho6 hfr6 hk6)
      go_ret2
      have hx := hfr6.new hk6 HK5.out.1 HK5.out.2
      have ee : hd (body r) ++ body r = enc r := by unfold hd enc; rw [List.append_assoc]
      rw [ee] at ho6
      refine ⟨o6, 8 + n4, c6, ?_, ?_, ?_, hx.1, hx.2⟩
      · rw [HE1.out.1]; rfl
      · show _ = _; rw [HE1.out.2, enc_length, HN4.out]; omega
      · rw [HE1.out.2]; exact ho6
  · have hm' : may r = false := by simpa using hm
    have HE1 : Hid (encE r = 1 ∧ encB r = []) := encE_bad hm'
    go_enter Tryz.func40, Tryz.ntmps40
    go_wp2_with fail
    refine (May_any _ k i op np cp ok nk ck r (H.out.keepsN hk0)).mono ?_
    rintro e w1 ⟨rfl, hk1⟩
    rw [hm']
    go_wp2_with fail
    go_ret2
    refine ⟨none, 0, 0, ?_, ?_, ?_, new_none _, hk0.trans hk1⟩
    · rw [HE1.out.1]; rfl
    · show _ = _; rw [HE1.out.2]; rfl
    · rw [HE1.out.2]; exact owns_nil _
end Go.Proofs.YtgamhblkgojapaaGreatDoor
