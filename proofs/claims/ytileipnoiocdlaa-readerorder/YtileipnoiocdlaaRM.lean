import Derived.Test.YtileipnoiocdlaaRK
/- Receive: a question is there. -/
namespace Go.Proofs.Ytileipnoiocdlaa
open Go.RowKit Go.Sort Orl
set_option linter.unusedVariables false
set_option linter.unusedSimpArgs false

theorem look2TI {w : World} {b : Nat} {L : List (Tx × Nat)} (h : IsMp KT Vi w b L) {k : Tx} (hk : k.size ≤ maxLen) {y : Nat} (hf : fnd k L = some y) : (Instr.lookup 82 (.map (some b)) (.string k) true).run Try.prog w = .ok (.tuple #[.int .i64 ((y : Nat) : Int), .bool true]) w :=
  h.look2_some lawT (t := 82) (e := 3) Try.underlying82 (z := .int .i64 0) (Try.zeroValue3 w) (k := k) hk hf
theorem look2TIn {w : World} {b : Nat} {L : List (Tx × Nat)} (h : IsMp KT Vi w b L) {k : Tx} (hk : k.size ≤ maxLen) (hf : fnd k L = none) : (Instr.lookup 82 (.map (some b)) (.string k) true).run Try.prog w = .ok (.tuple #[.int .i64 0, .bool false]) w :=
  h.look2_none lawT (t := 82) (e := 3) Try.underlying82 (z := .int .i64 0) (Try.zeroValue3 w) (k := k) hk hf
theorem remTI {w : World} {b : Nat} {L : List (Tx × Nat)} (h : IsMp KT Vi w b L) {k : Tx} (hk : k.size ≤ maxLen) :
    ∃ w1, (Builtin.delete_ #[82, 9] 0 #[.map (some b), .string k]).run Try.prog w = .ok (.tuple #[]) w1 ∧ IsMp KT Vi w1 b (del k L) ∧ Keeps (fun i => i = b) w w1 :=
  h.dele lawT (t := 82) (e := 3) Try.underlying82 (k := k) hk 0
set_option maxRecDepth 10000 in
set_option maxHeartbeats 2000000 in
/-- to whose key no answer is awaited -/
theorem recv_un (w : World) (p : Nat) (part cl : Int) (req id : Nat) (v4 v5 v6 : Option Addr) (n4 n5 n6 c4 c5 c6 c7 : Nat) (ob off g j mb rn rc : Nat) (r : RV) (d6 : w.cell? ⟨p, 6, none⟩ = some (.slice (some ⟨g, 0, none⟩) rn rc)) (d9 : w.cell? ⟨g, j * 10 + 9, none⟩ = some (.map (some mb))) (q0 : w.cell? ⟨ob, off, none⟩ = some (.string r.key)) (q1 : w.cell? ⟨ob, off + 1, none⟩ = some (.int .u64 (r.id : Nat))) (q2 : w.cell? ⟨ob, off + 2, none⟩ = some (.string r.val)) (q3 : w.cell? ⟨ob, off + 3, none⟩ = some (.slice r.o r.n r.c)) (hj : j < rn) (hrn : rn ≤ 64)
    (HI : Hid (∀ X A, Keeps no w X → X.cell? ⟨A, 0, none⟩ = some (.int .i64 part) → X.cell? ⟨A + 1, 2, none⟩ = some (.int .u64 (req : Nat)) → Calls Try.prog 29 #[.slice (some ⟨g, 0, none⟩) rn rc, .func (.func 30) #[] #[.pointer (some ⟨A, 0, none⟩), .pointer (some ⟨A + 1, 0, none⟩)]] X fun e w' => e = .returned (.int .i64 (j : Nat)) ∧ Keeps no X w'))
    (HLK : Hid (∀ X, Keeps no w X → (Instr.lookup 82 (.map (some mb)) (.string r.key) true).run Try.prog X = .ok (.tuple #[.int .i64 0, .bool false]) X)) :
    Calls Try.prog 13 #[.pointer (some ⟨p, 0, none⟩), .int .i64 part, aggC 7 cl req id v4 v5 v6 (some ⟨ob, off, none⟩) n4 n5 n6 1 c4 c5 c6 c7] w fun e w' => e = .returned (.slice none 0 0) ∧ Keeps no w w' := by
  have HB := bx_of w part 7 cl req id v4 v5 v6 (some ⟨ob, off, none⟩) n4 n5 n6 1 c4 c5 c6 c7
  unfold aggC
  obtain ⟨A, hA⟩ : ∃ A, A = w.heap.size := ⟨_, rfl⟩
  rw [← hA] at HB
  have HC : Hid (∀ X, Keeps no w X → X.cell? ⟨p, 6, none⟩ = some (.slice (some ⟨g, 0, none⟩) rn rc) ∧ X.cell? ⟨g, j * 10 + 9, none⟩ = some (.map (some mb)) ∧ X.cell? ⟨ob, off, none⟩ = some (.string r.key) ∧ X.cell? ⟨ob, off + 1, none⟩ = some (.int .u64 (r.id : Nat)) ∧ X.cell? ⟨ob, off + 2, none⟩ = some (.string r.val) ∧ X.cell? ⟨ob, off + 3, none⟩ = some (.slice r.o r.n r.c)) := fun X h => ⟨h.cellN d6, h.cellN d9, h.cellN q0, h.cellN q1, h.cellN q2, h.cellN q3⟩
  clear d6 d9 q0 q1 q2 q3
  obtain ⟨x0, x1, x2, xo, xn, xc⟩ := r
  simp only at *
  have hjI : (j : Int) < rn := by omega
  have hj0 : ¬ (j : Int) < 0 := by omega
  have hrnI : (rn : Int) ≤ 64 := by omega
  go_enter Try.func13, Try.ntmps13
  go_upto_region 1 with fail
  have hB := HB.out _ rfl
  rw [← hA]
  generalize (w.alloc (.cells #[.int .i64 part] 3)).alloc (.cells #[.int .i64 7, .int .i64 cl, .int .u64 (req : Nat), .int .u64 (id : Nat), .slice v4 n4 c4, .slice v5 n5 c5, .slice v6 n6 c6, .slice (some ⟨ob, off, none⟩) 1 c7] 42) = w1 at hB ⊢
  have H1 : Hid (Bx w w1 A part 7 cl req id v4 v5 v6 (some ⟨ob, off, none⟩) n4 n5 n6 1 c4 c5 c6 c7) := hB
  have m0 := cell_of_blk hB.m 0
  have m7 := cell_of_blk hB.m 7
  simp only [List.getElem?_toArray, List.getElem?_cons_succ, List.getElem?_cons_zero] at m0 m7
  have e6 := (HC.out w1 hB.kp).1
  have HI2 : Hid (Calls Try.prog 29 #[.slice (some ⟨g, 0, none⟩) rn rc, .func (.func 30) #[] #[.pointer (some ⟨A, 0, none⟩), .pointer (some ⟨A + 1, 0, none⟩)]] w1 fun e w' => e = .returned (.int .i64 (j : Nat)) ∧ Keeps no w1 w') := HI.out w1 A hB.kp (by rw [cell_of_blk hB.a]; rfl) (by rw [cell_of_blk hB.m]; rfl)
  clear hB HB hA HI
  go_wp2_with fail
  refine Calls.mono HI2.out ?_
  rintro e w2 ⟨rfl, hk2⟩
  have HK2 : Hid (Keeps no w w2) := H1.out.kp.trans hk2
  have hm := hk2.at H1.out.m (fun h => h)
  have HS : Hid (∀ X, Keeps no w2 X → X.cell? ⟨A + 1, 7, none⟩ = some (.slice (some ⟨ob, off, none⟩) 1 c7) ∧ X.cell? ⟨p, 6, none⟩ = some (.slice (some ⟨g, 0, none⟩) rn rc) ∧ X.cell? ⟨g, j * 10 + 9, none⟩ = some (.map (some mb)) ∧ X.cell? ⟨ob, off, none⟩ = some (.string x0) ∧ X.cell? ⟨ob, off + 1, none⟩ = some (.int .u64 (x1 : Nat)) ∧ X.cell? ⟨ob, off + 2, none⟩ = some (.string x2) ∧ X.cell? ⟨ob, off + 3, none⟩ = some (.slice xo xn xc)) := fun X hX => ⟨hX.cellN (by rw [cell_of_blk hm]; rfl), HC.out X (HK2.out.trans hX)⟩
  clear hk2 hm HI2 m0 m7 e6
  go_upto_region 6 with fail
  go_region_held3 (fun X => X.cell? ⟨A + 1, 7, none⟩ = some (.slice (some ⟨ob, off, none⟩) 1 c7) ∧ X.cell? ⟨p, 6, none⟩ = some (.slice (some ⟨g, 0, none⟩) rn rc) ∧ X.cell? ⟨g, j * 10 + 9, none⟩ = some (.map (some mb)) ∧ X.cell? ⟨ob, off, none⟩ = some (.string x0) ∧ X.cell? ⟨ob, off + 1, none⟩ = some (.int .u64 (x1 : Nat)) ∧ X.cell? ⟨ob, off + 2, none⟩ = some (.string x2) ∧ X.cell? ⟨ob, off + 3, none⟩ = some (.slice xo xn xc)) (first | exact HS.out _ ((Keeps.refl _ _).drew) | exact HS.out _ (((Keeps.refl _ _).alloc _).drew) | exact HS.out _ (((Keeps.refl _ _).drew).alloc _) | exact HS.out _ ((Keeps.refl _ _).alloc _) | exact HS.out _ (Keeps.refl _ _)) ((fail))
  obtain ⟨B, hBB⟩ : ∃ B, B = w2.heap.size := ⟨_, rfl⟩
  have HW3 : Hid (∀ W, W = (w2.alloc (.cells #[.string x0, .int .u64 (x1 : Nat), .string x2, .slice xo xn xc] 46)).drew → W.heap[B]? = some (.cells #[.string x0, .int .u64 (x1 : Nat), .string x2, .slice xo xn xc] 46 (0, 0)) ∧ Keeps no w W) := by
    rintro W rfl
    exact ⟨by rw [hBB]; exact blk_new w2 _, HK2.out.trans (((Keeps.refl _ _).alloc _).drew)⟩
  have h3 := HW3.out _ rfl
  rw [← hBB]
  generalize (w2.alloc (.cells #[.string x0, .int .u64 (x1 : Nat), .string x2, .slice xo xn xc] 46)).drew = w3 at h3 ⊢
  have H3 : Hid (w3.heap[B]? = some (.cells #[.string x0, .int .u64 (x1 : Nat), .string x2, .slice xo xn xc] 46 (0, 0)) ∧ Keeps no w w3) := h3
  have b0 := cell_of_blk h3.1 0
  simp only [List.getElem?_toArray, List.getElem?_cons_succ, List.getElem?_cons_zero] at b0
  have HWB : Hid (w.heap.size ≤ B) := by have := HK2.out.size; show _ ≤ _; omega
  clear h3 HW3 HS HC hBB
  have hlk := HLK.out w3 H3.out.2
  clear HLK
  go_wp2_with fail
  go_ret
  exact ⟨rfl, H3.out.2⟩
set_option maxRecDepth 10000 in
set_option maxHeartbeats 2000000 in
/-- an answer -/
theorem recv_yes (w : World) (p : Nat) (part cl : Int) (req id : Nat) (v4 v5 v6 : Option Addr) (n4 n5 n6 c4 c5 c6 c7 : Nat) (ob off g j mb rn rc : Nat) (r : RV) (d6 : w.cell? ⟨p, 6, none⟩ = some (.slice (some ⟨g, 0, none⟩) rn rc)) (d9 : w.cell? ⟨g, j * 10 + 9, none⟩ = some (.map (some mb))) (q0 : w.cell? ⟨ob, off, none⟩ = some (.string r.key)) (q1 : w.cell? ⟨ob, off + 1, none⟩ = some (.int .u64 (r.id : Nat))) (q2 : w.cell? ⟨ob, off + 2, none⟩ = some (.string r.val)) (q3 : w.cell? ⟨ob, off + 3, none⟩ = some (.slice r.o r.n r.c)) (hj : j < rn) (hrn : rn ≤ 64)
    (HI : Hid (∀ X A, Keeps no w X → X.cell? ⟨A, 0, none⟩ = some (.int .i64 part) → X.cell? ⟨A + 1, 2, none⟩ = some (.int .u64 (req : Nat)) → Calls Try.prog 29 #[.slice (some ⟨g, 0, none⟩) rn rc, .func (.func 30) #[] #[.pointer (some ⟨A, 0, none⟩), .pointer (some ⟨A + 1, 0, none⟩)]] X fun e w' => e = .returned (.int .i64 (j : Nat)) ∧ Keeps no X w'))
    (m : Nat) (hm : m + 1 = rn) (place : Nat) (HLK : Hid (∀ X, Keeps no w X → (Instr.lookup 82 (.map (some mb)) (.string r.key) true).run Try.prog X = .ok (.tuple #[.int .i64 (place : Nat), .bool true]) X))
    (Q : Ending → World → Prop) (Mid : World → World → Prop)
    (HKP : Hid (∀ X, Keeps no w X → Calls Try.prog 31 #[.pointer (some ⟨p, 0, none⟩), .int .i64 (place : Nat), .agg #[.string r.key, .int .u64 (r.id : Nat), .string r.val, .slice r.o r.n r.c]] X fun e w' => e = .returned (.tuple #[]) ∧ Mid X w'))
    (HDL : Hid (∀ X Y, Keeps no w X → Mid X Y → (∀ B, w.heap.size ≤ B → B < X.heap.size → Y.heap[B]? = X.heap[B]?) ∧ ∃ (Z : World) (left : Nat), (Builtin.delete_ #[82, 9] 0 #[.map (some mb), .string r.key]).run Try.prog Y = .ok (.tuple #[]) Z ∧ (∀ ty, (Builtin.len_ #[82] ty #[.map (some mb)]).run Try.prog Z = .ok (.int .i64 (left : Nat)) Z) ∧ left ≤ 1024 ∧ Z.cell? ⟨p, 6, none⟩ = some (.slice (some ⟨g, 0, none⟩) rn rc) ∧
      (¬ left = 0 → Hid (Q (.returned (.slice none 0 0)) Z)) ∧
      (left = 0 → Z.frozen? ⟨p, 6, none⟩ = false ∧ Hid (Calls Try.prog 32 #[.slice (some ⟨g, 0, none⟩) rn rc, .int .i64 (j : Nat), .int .i64 ((j : Int) + 1)] Z fun e w' => e = .returned (.slice (some ⟨g, 0, none⟩) m rc) ∧ w'.cell? ⟨p, 6, none⟩ = some (.slice (some ⟨g, 0, none⟩) rn rc) ∧ w'.frozen? ⟨p, 6, none⟩ = false ∧ ∃ ph : Nat, (ph = 1 ∨ ph = 2) ∧ Hid (∀ V, V = w'.setCell ⟨p, 6, none⟩ (.slice (some ⟨g, 0, none⟩) m rc) → V.cell? ⟨p, 6, none⟩ = some (.slice (some ⟨g, 0, none⟩) m rc) ∧ V.cell? ⟨p, 4, none⟩ = some (.int .i64 (ph : Nat)) ∧ (¬ m = 0 → Q (.returned (.slice none 0 0)) V) ∧ (m = 0 → ph = 1 → Calls Try.prog 33 #[.pointer (some ⟨p, 0, none⟩)] V fun e w'' => ∃ o n c, e = .returned (.slice o n c) ∧ Hid (Q e w'')) ∧ (m = 0 → ph = 2 → Calls Try.prog 34 #[.pointer (some ⟨p, 0, none⟩)] V fun e w'' => e = .returned (.tuple #[]) ∧ Hid (Q (.returned (.slice none 0 0)) w'')))))))
    :
    Calls Try.prog 13 #[.pointer (some ⟨p, 0, none⟩), .int .i64 part, aggC 7 cl req id v4 v5 v6 (some ⟨ob, off, none⟩) n4 n5 n6 1 c4 c5 c6 c7] w Q := by
  have HB := bx_of w part 7 cl req id v4 v5 v6 (some ⟨ob, off, none⟩) n4 n5 n6 1 c4 c5 c6 c7
  unfold aggC
  obtain ⟨A, hA⟩ : ∃ A, A = w.heap.size := ⟨_, rfl⟩
  rw [← hA] at HB
  have HC : Hid (∀ X, Keeps no w X → X.cell? ⟨p, 6, none⟩ = some (.slice (some ⟨g, 0, none⟩) rn rc) ∧ X.cell? ⟨g, j * 10 + 9, none⟩ = some (.map (some mb)) ∧ X.cell? ⟨ob, off, none⟩ = some (.string r.key) ∧ X.cell? ⟨ob, off + 1, none⟩ = some (.int .u64 (r.id : Nat)) ∧ X.cell? ⟨ob, off + 2, none⟩ = some (.string r.val) ∧ X.cell? ⟨ob, off + 3, none⟩ = some (.slice r.o r.n r.c)) := fun X h => ⟨h.cellN d6, h.cellN d9, h.cellN q0, h.cellN q1, h.cellN q2, h.cellN q3⟩
  clear d6 d9 q0 q1 q2 q3
  obtain ⟨x0, x1, x2, xo, xn, xc⟩ := r
  simp only at *
  have hjI : (j : Int) < rn := by omega
  have hj0 : ¬ (j : Int) < 0 := by omega
  have hrnI : (rn : Int) ≤ 64 := by omega
  go_enter Try.func13, Try.ntmps13
  go_upto_region 1 with fail
  have hB := HB.out _ rfl
  rw [← hA]
  generalize (w.alloc (.cells #[.int .i64 part] 3)).alloc (.cells #[.int .i64 7, .int .i64 cl, .int .u64 (req : Nat), .int .u64 (id : Nat), .slice v4 n4 c4, .slice v5 n5 c5, .slice v6 n6 c6, .slice (some ⟨ob, off, none⟩) 1 c7] 42) = w1 at hB ⊢
  have H1 : Hid (Bx w w1 A part 7 cl req id v4 v5 v6 (some ⟨ob, off, none⟩) n4 n5 n6 1 c4 c5 c6 c7) := hB
  have m0 := cell_of_blk hB.m 0
  have m7 := cell_of_blk hB.m 7
  simp only [List.getElem?_toArray, List.getElem?_cons_succ, List.getElem?_cons_zero] at m0 m7
  have e6 := (HC.out w1 hB.kp).1
  have HI2 : Hid (Calls Try.prog 29 #[.slice (some ⟨g, 0, none⟩) rn rc, .func (.func 30) #[] #[.pointer (some ⟨A, 0, none⟩), .pointer (some ⟨A + 1, 0, none⟩)]] w1 fun e w' => e = .returned (.int .i64 (j : Nat)) ∧ Keeps no w1 w') := HI.out w1 A hB.kp (by rw [cell_of_blk hB.a]; rfl) (by rw [cell_of_blk hB.m]; rfl)
  clear hB HB hA HI
  go_wp2_with fail
  refine Calls.mono HI2.out ?_
  rintro e w2 ⟨rfl, hk2⟩
  have HK2 : Hid (Keeps no w w2) := H1.out.kp.trans hk2
  have hm := hk2.at H1.out.m (fun h => h)
  have HS : Hid (∀ X, Keeps no w2 X → X.cell? ⟨A + 1, 7, none⟩ = some (.slice (some ⟨ob, off, none⟩) 1 c7) ∧ X.cell? ⟨p, 6, none⟩ = some (.slice (some ⟨g, 0, none⟩) rn rc) ∧ X.cell? ⟨g, j * 10 + 9, none⟩ = some (.map (some mb)) ∧ X.cell? ⟨ob, off, none⟩ = some (.string x0) ∧ X.cell? ⟨ob, off + 1, none⟩ = some (.int .u64 (x1 : Nat)) ∧ X.cell? ⟨ob, off + 2, none⟩ = some (.string x2) ∧ X.cell? ⟨ob, off + 3, none⟩ = some (.slice xo xn xc)) := fun X hX => ⟨hX.cellN (by rw [cell_of_blk hm]; rfl), HC.out X (HK2.out.trans hX)⟩
  clear hk2 hm HI2 m0 m7 e6
  go_upto_region 6 with fail
  go_region_held3 (fun X => X.cell? ⟨A + 1, 7, none⟩ = some (.slice (some ⟨ob, off, none⟩) 1 c7) ∧ X.cell? ⟨p, 6, none⟩ = some (.slice (some ⟨g, 0, none⟩) rn rc) ∧ X.cell? ⟨g, j * 10 + 9, none⟩ = some (.map (some mb)) ∧ X.cell? ⟨ob, off, none⟩ = some (.string x0) ∧ X.cell? ⟨ob, off + 1, none⟩ = some (.int .u64 (x1 : Nat)) ∧ X.cell? ⟨ob, off + 2, none⟩ = some (.string x2) ∧ X.cell? ⟨ob, off + 3, none⟩ = some (.slice xo xn xc)) (first | exact HS.out _ ((Keeps.refl _ _).drew) | exact HS.out _ (((Keeps.refl _ _).alloc _).drew) | exact HS.out _ (((Keeps.refl _ _).drew).alloc _) | exact HS.out _ ((Keeps.refl _ _).alloc _) | exact HS.out _ (Keeps.refl _ _)) ((fail))
  obtain ⟨B, hBB⟩ : ∃ B, B = w2.heap.size := ⟨_, rfl⟩
  have HW3 : Hid (∀ W, W = (w2.alloc (.cells #[.string x0, .int .u64 (x1 : Nat), .string x2, .slice xo xn xc] 46)).drew → W.heap[B]? = some (.cells #[.string x0, .int .u64 (x1 : Nat), .string x2, .slice xo xn xc] 46 (0, 0)) ∧ Keeps no w W) := by
    rintro W rfl
    exact ⟨by rw [hBB]; exact blk_new w2 _, HK2.out.trans (((Keeps.refl _ _).alloc _).drew)⟩
  have h3 := HW3.out _ rfl
  rw [← hBB]
  generalize (w2.alloc (.cells #[.string x0, .int .u64 (x1 : Nat), .string x2, .slice xo xn xc] 46)).drew = w3 at h3 ⊢
  have H3 : Hid (w3.heap[B]? = some (.cells #[.string x0, .int .u64 (x1 : Nat), .string x2, .slice xo xn xc] 46 (0, 0)) ∧ Keeps no w w3) := h3
  have b0 := cell_of_blk h3.1 0
  simp only [List.getElem?_toArray, List.getElem?_cons_succ, List.getElem?_cons_zero] at b0
  have HWB : Hid (w.heap.size ≤ B) := by have := HK2.out.size; show _ ≤ _; omega
  clear h3 HW3 HS HC hBB
  have hlk := HLK.out w3 H3.out.2
  have b1 := cell_of_blk H3.out.1 1
  have b2 := cell_of_blk H3.out.1 2
  have b3 := cell_of_blk H3.out.1 3
  simp only [List.getElem?_toArray, List.getElem?_cons_succ, List.getElem?_cons_zero] at b1 b2 b3
  have hmI : (m : Int) ≤ 64 := by omega
  have HM : Hid (m + 1 = rn) := hm
  have hrp : (0 : Int) < (rn : Int) := by omega
  clear HLK hm
  go_wp2_with fail
  refine Calls.mono (HKP.out w3 H3.out.2) ?_
  rintro e w4 ⟨rfl, hmid⟩
  obtain ⟨hbk, Z, left, hdel, hlen, hl1, z6, hno, hyes⟩ := HDL.out w3 w4 H3.out.2 hmid
  have hb4 := hbk B HWB.out (lt_of_block H3.out.1)
  rw [H3.out.1] at hb4
  have a0 := cell_of_blk hb4 0
  simp only [List.getElem?_toArray, List.getElem?_cons_succ, List.getElem?_cons_zero] at a0
  have hlI : (left : Int) ≤ 1024 := by omega
  clear hmid hbk hb4 hlk b0 b1 b2 b3 hl1
  by_cases hle : left = 0
  · have hln : ((left : Int) == 0) = true := by rw [hle]; rfl
    obtain ⟨zf, HD⟩ := hyes hle
    clear hno hyes hle
    go_wp2_with fail
    refine Calls.mono HD.out ?_
    rintro e w5 ⟨rfl, y6, yf, ph, hph, HV⟩
    go_upto_region 14 with fail
    have hV := HV.out _ rfl
    generalize w5.setCell ⟨p, 6, none⟩ (.slice (some ⟨g, 0, none⟩) m rc) = V at hV ⊢
    obtain ⟨v6', v4', hV1, hV2, hV3⟩ := hV
    clear HV HD y6 yf z6 zf hdel hlen a0
    by_cases hrest : m = 0
    · have hm0 : ¬ (0 : Int) < (m : Int) := by omega
      rcases hph with rfl | rfl
      · have HF : Hid (Calls Try.prog 33 #[.pointer (some ⟨p, 0, none⟩)] V fun e w'' => ∃ o n c, e = .returned (.slice o n c) ∧ Hid (Q e w'')) := hV2 hrest rfl
        clear hV1 hV2 hV3 hrest
        go_wp2_with fail
        refine Calls.mono HF.out ?_
        rintro e w6 ⟨o, n, c, rfl, HQ⟩
        go_wp2_with fail
        exact HQ.out
      · have HF : Hid (Calls Try.prog 34 #[.pointer (some ⟨p, 0, none⟩)] V fun e w'' => e = .returned (.tuple #[]) ∧ Hid (Q (.returned (.slice none 0 0)) w'')) := hV3 hrest rfl
        clear hV1 hV2 hV3 hrest
        go_wp2_with fail
        refine Calls.mono HF.out ?_
        rintro e w6 ⟨rfl, HQ⟩
        go_wp2_with fail
        exact HQ.out
    · have hm0 : (0 : Int) < (m : Int) := by omega
      have HQ : Hid (Q (.returned (.slice none 0 0)) V) := hV1 hrest
      clear hV1 hV2 hV3 hrest
      go_wp2_with fail
      exact HQ.out
  · have hln : ((left : Int) == 0) = false := by simp; omega
    have HQ := hno hle
    clear hno hyes hle
    go_wp2_with fail
    exact HQ.out
end Go.Proofs.Ytileipnoiocdlaa
/- Receive: all of it. -/
namespace Go.Proofs.Ytileipnoiocdlaa
open Go.RowKit Go.Sort Orl
set_option linter.unusedVariables false
set_option linter.unusedSimpArgs false

theorem tell_quiet {w Z : World} {p cp fr st : Nat} {F G : Nat → Prop} {s : RS} {t : Nat} (hI : IsRd Z p cp G s) (hG : ∀ i, G i → F i ∨ w.heap.size ≤ i) (k : Keeps F w Z) (hc : IsCt w cp fr st t) (hcF : ¬ F cp) : TellTo w p cp fr st F ⟨s, [], t⟩ (.returned (.slice none 0 0)) Z :=
  ⟨none, 0, 0, [], G, rfl, rfl, tq_nil Z, fun i hi => by rcases hi with ⟨x, e, _⟩ | ⟨j, hj, _⟩; cases e; simp at hj, hI, hG, fun i hi => by rcases hi with ⟨x, e, _⟩ | ⟨j, hj, _⟩; cases e; simp at hj, hc.keeps k hcF, k.mono (fun i h => .inl h)⟩
theorem asked_took (s : RS) (v : Ver) (h : undone (tookS s v) = undone s) : askedR (tookS s v) = askedR s := by
  unfold askedR; rw [h]; rfl
theorem asked_out (s : RS) (v : Ver) (j : Nat) (h : undone (tookS s v) = (undone s).eraseIdx j) : askedR (tookS s v) = (askedR s).eraseIdx j := by
  unfold askedR; rw [h, ← map_erase]; rfl
theorem zb_out {o : Option Addr} {rz : List RZ} {j n i : Nat} (hj : j < n) (h : ZB o (rz.eraseIdx j) (n - 1) i) : ZB o rz n i := by
  rcases h with h | ⟨a, ha, h⟩
  · exact .inl h
  · rw [getD_erase] at h
    split at h
    · exact .inr ⟨a, by omega, h⟩
    · exact .inr ⟨a + 1, by omega, h⟩
/-- a version that was awaited -/
theorem recv_took (w : World) (p cp fr st : Nat) (F : Nat → Prop) (s : RS) (t : Nat) (h : IsRd w p cp F s) (hw : WfR s) (hc : IsCt w cp fr st t) (ht : t + 64 ≤ 4611686018427387904) (hcF : ¬ F cp) (he : s.ended = 0)
    (nmo : Option Addr) (nc : Nat) (g rc : Nat) (rz : List RZ) (co : Option Addr) (cc : Nat) (cs : List RV) (vo : Option Addr) (vc : Nat) (vs : List RV) (hl : RdL w p cp F s nmo nc (some ⟨g, 0, none⟩) rc rz co cc cs vo vc vs)
    (j : Nat) (hj : j < (undone s).length) (v : Ver) (hv : v.key ∈ ((psR s).getD ((undone s).getD j 0) pp0).2) (hf : FitV v) (L : List (Tx × Nat)) (hm : IsMp KT Vi w (rz.getD j rz0).mb L) (hL : OpL s ((psR s).getD ((undone s).getD j 0) pp0).2 L) (m : Nat) (hmm : m + 1 = (undone s).length)
    (X Y : World) (cs' : List RV) (hX : Keeps no w X) (hk : KeptTo X co cc cs s.came vs s.first.length (ixN s.nm v.key) v Y cs') :
    (∀ B, w.heap.size ≤ B → B < X.heap.size → Y.heap[B]? = X.heap[B]?) ∧ ∃ (Z : World) (left : Nat), (Builtin.delete_ #[82, 9] 0 #[.map (some (rz.getD j rz0).mb), .string v.key]).run Try.prog Y = .ok (.tuple #[]) Z ∧ (∀ ty, (Builtin.len_ #[82] ty #[.map (some (rz.getD j rz0).mb)]).run Try.prog Z = .ok (.int .i64 (left : Nat)) Z) ∧ left ≤ 1024 ∧ Z.cell? ⟨p, 6, none⟩ = some (.slice (some ⟨g, 0, none⟩) (undone s).length rc) ∧
      (¬ left = 0 → Hid (TellTo w p cp fr st F (behindO (tookS s v) fr st t) (.returned (.slice none 0 0)) Z)) ∧
      (left = 0 → Z.frozen? ⟨p, 6, none⟩ = false ∧ Hid (Calls Try.prog 32 #[.slice (some ⟨g, 0, none⟩) (undone s).length rc, .int .i64 (j : Nat), .int .i64 ((j : Int) + 1)] Z fun e w' => e = .returned (.slice (some ⟨g, 0, none⟩) m rc) ∧ w'.cell? ⟨p, 6, none⟩ = some (.slice (some ⟨g, 0, none⟩) (undone s).length rc) ∧ w'.frozen? ⟨p, 6, none⟩ = false ∧ ∃ ph : Nat, (ph = 1 ∨ ph = 2) ∧ Hid (∀ V, V = w'.setCell ⟨p, 6, none⟩ (.slice (some ⟨g, 0, none⟩) m rc) → V.cell? ⟨p, 6, none⟩ = some (.slice (some ⟨g, 0, none⟩) m rc) ∧ V.cell? ⟨p, 4, none⟩ = some (.int .i64 (ph : Nat)) ∧ (¬ m = 0 → TellTo w p cp fr st F (behindO (tookS s v) fr st t) (.returned (.slice none 0 0)) V) ∧ (m = 0 → ph = 1 → Calls Try.prog 33 #[.pointer (some ⟨p, 0, none⟩)] V fun e w'' => ∃ o n c, e = .returned (.slice o n c) ∧ Hid (TellTo w p cp fr st F (behindO (tookS s v) fr st t) e w'')) ∧ (m = 0 → ph = 2 → Calls Try.prog 34 #[.pointer (some ⟨p, 0, none⟩)] V fun e w'' => e = .returned (.tuple #[]) ∧ Hid (TellTo w p cp fr st F (behindO (tookS s v) fr st t) (.returned (.slice none 0 0)) w''))))) := by
  have hp := h.2.1 p h.1
  have hcl := lt_of_block hc
  have hi := undone_lt hj
  have hvn := (ps_keys hi).2.1 _ hv
  have hks := hw.nmz _ hvn
  have hnot : ∀ B, w.heap.size ≤ B → ¬ inO co B := fun B hB hi => by have := hl.cam.lt B hi; omega
  have hmX := hm.keepsN hX
  have hmo : ¬ inO co (rz.getD j rz0).mb := fun hi => by
    obtain ⟨es, cl, h3⟩ := hm.obj
    obtain ⟨cur, h4⟩ := hl.cam.tag _ hi
    rw [h3] at h4; cases h4
  have hmY := hmX.keeps hk.kp hmo
  obtain ⟨Z, hrun, hMZ, hKZ⟩ := remTI hmY (k := v.key) (by unfold maxLen; omega)
  have hLt := hL.took hw hi hv
  obtain ⟨hR, hZ, hfz, hkw⟩ := took_one hl hp hw hX hk hj hv hL hmY.obj hMZ hKZ
  have hw1 := hw.took hvn hf
  have hG : ∀ i, (F i ∨ (w.heap.size ≤ i ∧ i < Y.heap.size)) → F i ∨ w.heap.size ≤ i := fun i hi => hi.imp id (fun h => h.1)
  have hGc : ¬ (F cp ∨ (w.heap.size ≤ cp ∧ cp < Y.heap.size)) := by
    rintro (h | h)
    · exact hcF h
    · omega
  have hYZ : Y.heap.size ≤ Z.heap.size := hKZ.size
  have hGl : ∀ i, (F i ∨ (w.heap.size ≤ i ∧ i < Y.heap.size)) → i < Z.heap.size := by
    rintro i (hi | hi)
    · have := h.2.1 i hi; have := hkw.size; omega
    · omega
  have hround : s.round = 1 ∨ s.round = 2 := by
    have h1 := hw.rd
    by_cases e : s.round = 0
    · have := hw.r0 e; rw [this] at hvn; cases hvn
    · omega
  have hemp := hLt.empty
  have hud := took_undone hw hj hv
  have hde : doneQ (tookS s v) ((undone s).getD j 0) = true ↔ (del v.key L).length = 0 := by rw [hemp]; rfl
  refine ⟨fun B h1 h2 => hk.kp.block B h2 (hnot B h1), Z, (del v.key L).length, hrun, fun ty => hMZ.len (t := 82) (e := 3) Try.underlying82 ty, hLt.le, by rw [cell_of_blk hR.blk]; rfl, fun hne => ?_, fun h0 => ⟨frozen_of_blk hR.blk 6, ?_⟩⟩
  · have hu : undone (tookS s v) = undone s := by rw [hud, if_neg (fun e => hne (hde.1 e))]
    have hB : behindO (tookS s v) fr st t = ⟨tookS s v, [], t⟩ := by
      unfold behindO
      rw [if_neg (by rw [hu]; intro e; rw [e] at hj; simp at hj)]
    show TellTo _ _ _ _ _ _ _ _ _
    rw [hB]
    have hR' := hR
    rw [← hu] at hR'
    have hZ' := hZ
    rw [← asked_took s v hu, ← hu] at hZ'
    have hfz' := hfz
    rw [← hu] at hfz'
    have hI : IsRd Z p cp (fun i => F i ∨ (w.heap.size ≤ i ∧ i < Y.heap.size)) (tookS s v) := ⟨.inl h.1, hGl, .inr ⟨he, _, _, _, _, _, _, _, _, _, _, _, hR'.all hZ' hfz'⟩⟩
    exact tell_quiet hI hG hkw hc hcF
  · have hu : undone (tookS s v) = (undone s).eraseIdx j := by rw [hud, if_pos (hde.2 h0)]
    have hun : (undone (tookS s v)).length = m := by rw [hu, List.length_eraseIdx, if_pos hj]; omega
    have hrl : rz.length = (undone s).length := hZ.lenI
    have hd := delete_any Z g (undone s).length rc j rz hZ.own hrl.symm hj (by have := undone_le s; have := ps_le s; have := hw.p2; omega)
    show Calls _ _ _ _ _
    refine hd.mono ?_
    rintro e w' ⟨rfl, ho, hkg⟩
    have hgz : ZB (some (⟨g, 0, none⟩ : Addr)) rz (undone s).length g := .inl ⟨_, rfl, rfl⟩
    have hR2 := hR.keeps hkg (fun i e => by rw [e]; exact (hfz g hgz).2)
    have hZ2 := hZ.out hj ho hkg
    refine ⟨by rw [show (undone s).length - 1 = m by omega], by rw [cell_of_blk hR2.blk]; rfl, frozen_of_blk hR2.blk 6, s.round, hround, ?_⟩
    rintro V rfl
    have hR3 := hR2.round m
    have k6 := keeps_one w' p 6 (.slice (some ⟨g, 0, none⟩) m rc)
    have hZ3 := hZ2.keepsT k6 (by rintro b rfl; exact ⟨_, _, _, hR2.blk, by decide, by decide, by decide⟩)
    rw [← hun] at hR3
    rw [← asked_out s v j hu, ← hu] at hZ3
    have hfz3 : ∀ i, ZB (some (⟨g, 0, none⟩ : Addr)) (rz.eraseIdx j) (undone (tookS s v)).length i → (F i ∨ (w.heap.size ≤ i ∧ i < Y.heap.size)) ∧ i ≠ p ∧ ¬ inO nmo i ∧ ¬ VB co cs' (tookS s v).came.length i ∧ ¬ VB vo vs (tookS s v).first.length i := fun i hi => by
      rw [hun, show m = (undone s).length - 1 by omega] at hi
      exact hfz i (zb_out hj hi)
    have hk3 : Keeps F w (w'.setCell ⟨p, 6, none⟩ (.slice (some ⟨g, 0, none⟩) m rc)) := (hkw.then hkg (fun i e => by rw [e]; exact hG _ (hfz g hgz).1)).trans (k6.mono (fun i e => by rw [e]; exact h.1))
    have hsz3 : Z.heap.size ≤ (w'.setCell ⟨p, 6, none⟩ (.slice (some ⟨g, 0, none⟩) m rc)).heap.size := Nat.le_trans hkg.size k6.size
    have hR4 := hR3
    rw [hun] at hR4
    have hR5 : RdR (w'.setCell ⟨p, 6, none⟩ (.slice (some ⟨g, 0, none⟩) m rc)) p cp (fun i => F i ∨ (w.heap.size ≤ i ∧ i < Y.heap.size)) (tookS s v) (undone (tookS s v)).length nmo nc (some ⟨g, 0, none⟩) rc co cc cs' vo vc vs := by
      rw [hun]
      exact hR4
    have hI : IsRd (w'.setCell ⟨p, 6, none⟩ (.slice (some ⟨g, 0, none⟩) m rc)) p cp (fun i => F i ∨ (w.heap.size ≤ i ∧ i < Y.heap.size)) (tookS s v) := by
      refine ⟨.inl h.1, fun i hi => Nat.lt_of_lt_of_le (hGl i hi) hsz3, .inr ⟨he, _, _, _, _, _, _, _, _, _, _, _, hR5.all hZ3 hfz3⟩⟩
    refine ⟨by rw [cell_of_blk hR4.blk]; rfl, by rw [cell_of_blk hR4.blk]; rfl, fun hm0 => ?_, fun hm0 hp1 => ?_, fun hm0 hp2 => ?_⟩
    · have hB : behindO (tookS s v) fr st t = ⟨tookS s v, [], t⟩ := by
        unfold behindO
        rw [if_neg (fun e => by rw [e] at hun; simp at hun; omega)]
      rw [hB]
      exact tell_quiet hI hG hk3 hc hcF
    · have hB : behindO (tookS s v) fr st t = endFO (tookS s v) fr st t := by
        unfold behindO
        rw [if_pos (List.length_eq_zero_iff.1 (by rw [hun, hm0])), if_pos (show (tookS s v).round = 1 from hp1)]
      rw [hB]
      refine (endFirst_any _ p cp fr st _ (tookS s v) t hI hw1 (hc.keeps hk3 hcF) ht hGc he).mono ?_
      rintro e w'' hT
      obtain ⟨o, n, c, rs, G', rfl, T⟩ := hT
      exact ⟨o, n, c, rfl, TellTo.after ⟨o, n, c, rs, G', rfl, T⟩ hk3 hG⟩
    · have hB : behindO (tookS s v) fr st t = ⟨endS2 (tookS s v), [], t⟩ := by
        unfold behindO
        rw [if_pos (List.length_eq_zero_iff.1 (by rw [hun, hm0])), if_neg (show ¬ (tookS s v).round = 1 from fun e => by have e : s.round = 1 := e; omega)]
      rw [hB]
      refine (endSecond_any _ p cp _ (tookS s v) hI hw1 he).mono ?_
      rintro e w'' hE
      obtain ⟨rfl, _⟩ := id hE
      exact ⟨rfl, tell_end2 hE hk3 hG hc hcF⟩
end Go.Proofs.Ytileipnoiocdlaa
