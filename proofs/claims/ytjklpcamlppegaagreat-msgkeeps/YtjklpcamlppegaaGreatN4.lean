/- The program's May. -/
import Derived.Test.YtjklpcamlppegaaGreatN3
namespace Go.Proofs.YtjklpcamlppegaaGreat
open Go.RowKit Go.Sort Orl Pk
set_option linter.unusedVariables false
set_option linter.unusedSimpArgs false

theorem lacks_kind (w : World) (k cl : Int) (q i : Nat) (op : Option Addr) (np cp : Nat) (ok : Option Addr) (nk ck : Nat) (ow : Option Addr) (nw cw : Nat) (ov : Option Addr) (nv cv : Nat) (rs : List RV) (m : Msg)
    (h : IsM w k cl q i op np cp ok nk ck ow nw cw ov nv cv rs m) (hk : fAny k = true) :
    Calls Tryz.prog 23 #[.agg #[.bool (fId k), .bool (fKeys k), .bool (fPairs k), .bool (fWants k), .bool (fVers k)], .agg #[.int .i64 k, .int .i64 cl, .int .u64 (q : Nat), .int .u64 (i : Nat), .slice op np cp, .slice ok nk ck, .slice ow nw cw, .slice ov nv cv]] w
      fun e w' => e = .returned (.bool (lacksB (fId k) (fKeys k) (fPairs k) (fWants k) (fVers k) m)) ∧ Keeps no w w' := by
  have hk8 : k = 1 ∨ k = 2 ∨ k = 3 ∨ k = 4 ∨ k = 5 ∨ k = 6 ∨ k = 7 ∨ k = 8 := by unfold fAny at hk; rw [decide_eq_true_eq] at hk; omega
  rcases hk8 with rfl | rfl | rfl | rfl | rfl | rfl | rfl | rfl
  · exact lacks_prepare w _ _ _ _ _ _ _ _ _ _ _ _ _ _ _ _ _ _ h
  · exact lacks_plain w _ _ _ _ _ _ _ _ _ _ _ _ _ _ _ _ _ _ h
  · exact lacks_latest w _ _ _ _ _ _ _ _ _ _ _ _ _ _ _ _ _ _ h
  · exact lacks_byID w _ _ _ _ _ _ _ _ _ _ _ _ _ _ _ _ _ _ h
  · exact lacks_plain w _ _ _ _ _ _ _ _ _ _ _ _ _ _ _ _ _ _ h
  · exact lacks_plain w _ _ _ _ _ _ _ _ _ _ _ _ _ _ _ _ _ _ h
  · exact lacks_versions w _ _ _ _ _ _ _ _ _ _ _ _ _ _ _ _ _ _ h
  · exact lacks_plain w _ _ _ _ _ _ _ _ _ _ _ _ _ _ _ _ _ _ h

theorem may_eq {m : Msg} {k cl : Int} {q : Nat} (hk : k = m.kind) (hc : cl = m.client) (hq : q = m.req) : may m = (decide (0 ≤ cl ∧ cl ≤ 15 ∧ 1 ≤ q) && (fAny k && (holdsB (fId k) (fKeys k) (fPairs k) (fWants k) m && lacksB (fId k) (fKeys k) (fPairs k) (fWants k) (fVers k) m))) := by
  unfold may topOk; rw [mayF_fields, hk, hc, hq]

theorem cells8 {w : World} {g : Nat} {a0 a1 a2 a3 a4 a5 a6 a7 : Value} {t : TypeId} {fr : Nat × Nat} (h : w.heap[g]? = some (.cells #[a0, a1, a2, a3, a4, a5, a6, a7] t fr)) :
    w.cell? ⟨g, 0, none⟩ = some a0 ∧ w.cell? ⟨g, 1, none⟩ = some a1 ∧ w.cell? ⟨g, 2, none⟩ = some a2 ∧ w.cell? ⟨g, 3, none⟩ = some a3 ∧ w.cell? ⟨g, 4, none⟩ = some a4 ∧ w.cell? ⟨g, 5, none⟩ = some a5 ∧ w.cell? ⟨g, 6, none⟩ = some a6 ∧ w.cell? ⟨g, 7, none⟩ = some a7 :=
  ⟨cell_of_blk h 0, cell_of_blk h 1, cell_of_blk h 2, cell_of_blk h 3, cell_of_blk h 4, cell_of_blk h 5, cell_of_blk h 6, cell_of_blk h 7⟩
theorem cells5 {w : World} {g : Nat} {a0 a1 a2 a3 a4 : Value} {t : TypeId} {fr : Nat × Nat} (h : w.heap[g]? = some (.cells #[a0, a1, a2, a3, a4] t fr)) :
    w.cell? ⟨g, 0, none⟩ = some a0 ∧ w.cell? ⟨g, 1, none⟩ = some a1 ∧ w.cell? ⟨g, 2, none⟩ = some a2 ∧ w.cell? ⟨g, 3, none⟩ = some a3 ∧ w.cell? ⟨g, 4, none⟩ = some a4 :=
  ⟨cell_of_blk h 0, cell_of_blk h 1, cell_of_blk h 2, cell_of_blk h 3, cell_of_blk h 4⟩
theorem cells4 {w : World} {g : Nat} {a0 a1 a2 a3 : Value} {t : TypeId} {fr : Nat × Nat} (h : w.heap[g]? = some (.cells #[a0, a1, a2, a3] t fr)) :
    w.cell? ⟨g, 0, none⟩ = some a0 ∧ w.cell? ⟨g, 1, none⟩ = some a1 ∧ w.cell? ⟨g, 2, none⟩ = some a2 ∧ w.cell? ⟨g, 3, none⟩ = some a3 :=
  ⟨cell_of_blk h 0, cell_of_blk h 1, cell_of_blk h 2, cell_of_blk h 3⟩

set_option maxRecDepth 10000 in
theorem May_any (w : World) (k cl : Int) (q i : Nat) (op : Option Addr) (np cp : Nat) (ok : Option Addr) (nk ck : Nat) (ow : Option Addr) (nw cw : Nat) (ov : Option Addr) (nv cv : Nat) (rs : List RV) (m : Msg)
    (h : IsM w k cl q i op np cp ok nk ck ow nw cw ov nv cv rs m) :
    Calls Tryz.prog 8 #[.agg #[.int .i64 k, .int .i64 cl, .int .u64 (q : Nat), .int .u64 (i : Nat), .slice op np cp, .slice ok nk ck, .slice ow nw cw, .slice ov nv cv]] w
      fun e w' => e = .returned (.bool (may m)) ∧ Keeps no w w' := by
  have H : Hid (IsM w k cl q i op np cp ok nk ck ow nw cw ov nv cv rs m) := h
  have HE := may_eq h.k h.cl h.q
  rw [HE]
  clear HE h
  have c1 : -9223372036854775808 ≤ cl := by rw [H.out.cl]; exact H.out.rng.c1
  have c2 : cl ≤ 9223372036854775807 := by rw [H.out.cl]; exact H.out.rng.c2
  have hk0 : Keeps no w (w.alloc (.cells #[.int .i64 k, .int .i64 cl, .int .u64 (q : Nat), .int .u64 (i : Nat), .slice op np cp, .slice ok nk ck, .slice ow nw cw, .slice ov nv cv] 29)) := (Keeps.refl _ _).alloc _
  generalize hA : fId k = A
  generalize hB : fKeys k = B
  generalize hP : fPairs k = P
  generalize hT : fWants k = T
  generalize hV : fVers k = V
  generalize hY : fAny k = Y
  generalize hR : (decide (0 ≤ cl ∧ cl ≤ 15 ∧ 1 ≤ q) && (Y && (holdsB A B P T m && lacksB A B P T V m))) = R
  have HR : Hid ((decide (0 ≤ cl ∧ cl ≤ 15 ∧ 1 ≤ q) && (Y && (holdsB A B P T m && lacksB A B P T V m))) = R) := hR
  clear hR
  go_enter Tryz.func8, Tryz.ntmps8
  go_wp2_with fail
  refine (fieldsOf_any _ k).mono ?_
  rintro e w1 ⟨rfl, hk1⟩
  rw [hA, hB, hP, hT, hV, hY]
  have hb : w1.heap[w.heap.size]? = some (.cells #[.int .i64 k, .int .i64 cl, .int .u64 (q : Nat), .int .u64 (i : Nat), .slice op np cp, .slice ok nk ck, .slice ow nw cw, .slice ov nv cv] 29 (0, 0)) := hk1.at (blk_new w _) id
  obtain ⟨x0, x1, x2, x3, x4, x5, x6, x7⟩ := cells8 (blk_alloc hb (.cells #[.bool A, .bool B, .bool P, .bool T, .bool V] 55))
  have hk01 := hk0.trans hk1
  have HB0 : Hid (w1.heap[w.heap.size]? = some (.cells #[.int .i64 k, .int .i64 cl, .int .u64 (q : Nat), .int .u64 (i : Nat), .slice op np cp, .slice ok nk ck, .slice ow nw cw, .slice ov nv cv] 29 (0, 0))) := hb
  clear hb
  have HY : Hid (fAny k = Y) := hY
  have HA : Hid (fId k = A) := hA
  have HB : Hid (fKeys k = B) := hB
  have HP : Hid (fPairs k = P) := hP
  have HT : Hid (fWants k = T) := hT
  have HV : Hid (fVers k = V) := hV
  clear hY hA hB hP hT hV
  cases Y with
  | false =>
    go_wp2
    go_ret
    exact ⟨by rw [← HR.out, Bool.false_and, Bool.and_false]; rfl, hk01.alloc _⟩
  | true =>
    by_cases g1 : 0 ≤ cl
    case neg =>
      go_wp2
      go_ret
      exact ⟨by rw [← HR.out, decide_eq_false (show ¬ (0 ≤ cl ∧ cl ≤ 15 ∧ 1 ≤ q) by omega), Bool.false_and]; rfl, hk01.alloc _⟩
    by_cases g2 : cl ≤ 15
    case neg =>
      have g2' : ¬ cl < 16 := by omega
      go_wp2
      go_ret
      exact ⟨by rw [← HR.out, decide_eq_false (show ¬ (0 ≤ cl ∧ cl ≤ 15 ∧ 1 ≤ q) by omega), Bool.false_and]; rfl, hk01.alloc _⟩
    have g2' : cl < 16 := by omega
    by_cases g3 : 1 ≤ q
    case neg =>
      have g3' : ¬ (1 : Int) ≤ (q : Int) := by omega
      go_wp2
      go_ret
      exact ⟨by rw [← HR.out, decide_eq_false (show ¬ (0 ≤ cl ∧ cl ≤ 15 ∧ 1 ≤ q) by omega), Bool.false_and]; rfl, hk01.alloc _⟩
    have g3' : (1 : Int) ≤ (q : Int) := by omega
    have g4 : decide (0 ≤ cl ∧ cl ≤ 15 ∧ 1 ≤ q) = true := decide_eq_true ⟨g1, g2, g3⟩
    have G4 : Hid (decide (0 ≤ cl ∧ cl ≤ 15 ∧ 1 ≤ q) = true) := g4
    clear g4 g3 g2
    have hk2 := hk01.alloc (.cells #[.bool A, .bool B, .bool P, .bool T, .bool V] 55)
    go_wp2_with fail
    refine (holds_any _ A B P T V k cl q i op np cp ok nk ck ow nw cw ov nv cv rs m (H.out.keepsN hk2)).mono ?_
    rintro e w3 ⟨rfl, hk3⟩
    have hk03 := hk2.trans hk3
    obtain ⟨y0, y1, y2, y3, y4, y5, y6, y7⟩ := cells8 (hk3.at (blk_alloc HB0.out _) id)
    obtain ⟨z0, z1, z2, z3, z4⟩ := cells5 (hk3.at (blk_new w1 _) id)
    by_cases g5 : holdsB A B P T m = true
    · rw [g5]
      have hL := lacks_kind w3 k cl q i op np cp ok nk ck ow nw cw ov nv cv rs m (H.out.keepsN hk03) HY.out
      rw [HA.out, HB.out, HP.out, HT.out, HV.out] at hL
      go_wp2_with fail
      refine hL.mono ?_
      rintro e w4 ⟨rfl, hk4⟩
      go_wp2
      go_ret
      refine ⟨?_, hk03.trans hk4⟩
      rw [← HR.out, G4.out, g5, Bool.true_and, Bool.true_and, Bool.true_and]; rfl
    · have g5' : holdsB A B P T m = false := by simpa using g5
      rw [g5']
      go_wp2
      go_ret
      exact ⟨by rw [← HR.out, g5', Bool.false_and, Bool.and_false, Bool.and_false]; rfl, hk03⟩
end Go.Proofs.YtjklpcamlppegaaGreat
