/- The net's enter, Send. -/
import Derived.Test.YtdbejihkliafiaaC2
namespace Go.Proofs.Ytdbejihkliafiaa
open Go.RowKit Go.Sort
set_option linter.unusedVariables false
set_option linter.unusedSimpArgs false

set_option maxRecDepth 10000 in
set_option maxHeartbeats 8000000 in
theorem nEnter_any (w : World) (p : Nat) (F : Nat → Prop) (s : NS) (K : Nat) (a b : Int) (bs : List UInt8) (h : IsN w p F s) (hw : NWf s K) (hK : K ≤ 2600000000000) :
    Calls Try.prog 24 #[.pointer (some ⟨p, 0, none⟩), .int .i64 a, .int .i64 b, .string (mkT bs)] w (NTo IsN w p F (.int .i64 (((s.num + 1 : Nat)) : Int)) (putS s a b bs)) := by
  obtain ⟨o, n, c, h⟩ := h
  obtain ⟨c0', c1', c2, c3⟩ := h.cells
  have f2 := frozen_of_blk h.blk 2
  have hnum : (s.num : Int) ≤ 2600000000000 := by have := hw.num; omega
  obtain ⟨M, hM⟩ : ∃ M, M = s.num + 1 := ⟨_, rfl⟩
  rw [← hM]
  have hMI : (s.num : Int) + 1 = (M : Int) := by omega
  have HW1 : Hid (∀ w1, w1 = w.setCell ⟨p, 2, none⟩ (.int .i64 (M : Int)) → w1.heap[p]? = some (.cells (nC s.parts s.clients M (.slice o n c)) 62 (0, 0)) ∧ Keeps (fun i => i = p) w w1) := by
    rintro w1 rfl
    refine ⟨?_, (Keeps.refl (fun i => i = p) w).setCell (p := ⟨p, 2, none⟩) (.inl (show p = p from rfl)) _⟩
    rw [blk_set h.blk 2]; rfl
  have HL : Hid (NuL w p F s o n c) := h
  have HLL : Hid (s.fl.length ≤ 2600000000000 ∧ M = s.num + 1) := ⟨by have := hw.len; have := hw.num; omega, hM⟩
  clear h hw hK c0' c1' hM
  go_enter Try.func24, Try.ntmps24
  go_upto_region 2 with fail
  have hw1 := HW1.out _ rfl
  generalize w.setCell ⟨p, 2, none⟩ (.int .i64 (M : Int)) = w1 at hw1 ⊢
  have HP1 : Hid (w1.heap[p]? = some (.cells (nC s.parts s.clients M (.slice o n c)) 62 (0, 0)) ∧ Keeps (fun i => i = p) w w1) := hw1
  have HNP : Hid (¬ inO o p ∧ Win UE w1 o c s.fl) := ⟨fun hi => HL.out.ne p hi rfl, HL.out.win.keeps hw1.2 (fun i hi e => HL.out.ne i hi e)⟩
  have HC3 : Hid (∀ X, Keeps no w1 X → X.cell? ⟨p, 3, none⟩ = some (.slice o n c)) := fun X hX => by
    rw [cell_of_blk (hX.at HP1.out.1 (fun h => h))]; rfl
  have HSX : Hid (∀ X, Keeps (inO o) w1 X → X.cell? ⟨p, 2, none⟩ = some (.int .i64 (M : Nat))) := fun X hX => by
    rw [cell_of_blk (hX.at HP1.out.1 HNP.out.1)]; rfl
  have HLN : Hid (n = s.fl.length ∧ Win UE w1 o c s.fl ∧ (s.fl.length + 1) * UE.nb ≤ 140737488355328 ∧ s.fl.length + 1 ≤ 140737488355328) := by
    have h1 := HLL.out.1
    have h3 := HL.out.n
    refine ⟨h3, HNP.out.2, ?_, by omega⟩
    show (s.fl.length + 1) * 40 ≤ _
    omega
  have HFN : Hid (∀ o9 c9 wb w9, Keeps no w1 wb → Win UE w9 o9 c9 (s.fl ++ [⟨M, a, b, bs⟩]) → Ap (wb.alloc (.cells #[.int .i64 (M : Nat), .int .i64 a, .int .i64 b, .string (mkT bs)] 67)) o o9 w9 → w9.cell? ⟨p, 3, none⟩ = some (.slice o n c) ∧ w9.frozen? ⟨p, 3, none⟩ = false ∧ w9.cell? ⟨p, 2, none⟩ = some (.int .i64 (M : Nat)) ∧ (w9.setCell ⟨p, 3, none⟩ (.slice o9 (n + 1) c9)).cell? ⟨p, 2, none⟩ = some (.int .i64 (M : Nat)) ∧ NTo IsN w p F (.int .i64 (M : Nat)) (putS s a b bs) (.returned (.int .i64 (M : Nat))) (w9.setCell ⟨p, 3, none⟩ (.slice o9 (n + 1) c9))) := by
    intro o9 c9 wb w9 hkb ho9 ha9
    have hb9 : w9.heap[p]? = some (.cells (nC s.parts s.clients M (.slice o n c)) 62 (0, 0)) := ha9.keeps.at ((hkb.alloc _).at HP1.out.1 (fun h => h)) HNP.out.1
    have hb10 := blk_set hb9 3 (.slice o9 (n + 1) c9)
    have e10 : (w9.setCell ⟨p, 3, none⟩ (.slice o9 (n + 1) c9)).heap[p]? = some (.cells (nC s.parts s.clients M (.slice o9 (n + 1) c9)) 62 (0, 0)) := by rw [hb10]; rfl
    refine ⟨by rw [cell_of_blk hb9]; rfl, frozen_of_blk hb9 3, by rw [cell_of_blk hb9]; rfl, by rw [cell_of_blk e10]; rfl, rfl, ?_⟩
    have hM := HLL.out.2
    subst hM
    exact HL.out.put HP1.out.2 (hkb.alloc _) ho9 ha9 ((Keeps.refl (fun i => i = p) w9).setCell (p := ⟨p, 3, none⟩) (.inl (show p = p from rfl)) _) e10 ⟨_, hb9⟩
  clear hw1 HW1 HLL HNP c2 c3 f2 hnum hMI HP1
  refine wp_region_held_drew (S := fun X => X.cell? ⟨p, 2, none⟩ = some (.int .i64 (M : Nat))) (by kernel_rfl) ?_ (fun hHeld => ?_)
  · exact HSX.out _ ((Keeps.refl _ _).drew)
  have HDW : Hid (Keeps no w1 w1.drew) := (Keeps.refl _ _).drew
  generalize w1.drew = zd at HDW hHeld ⊢
  refine wpAnyH_take (i := 0) (v := ?_) (by simp only [List.getElem?_toArray, List.getElem?_cons_succ, List.getElem?_cons_zero]; rfl) (by kernel_rfl) (by kernel_rfl) (by kernel_rfl) (by exact fun _ _ _ h => h) (Or.inl ⟨by rfl, ?_⟩) (by assumption) ?_
  rotate_left
  · (intro _ hSw; (try dsimp only at hSw); go_simp; (try with_reducible rfl))
  try simp only [Act.put, List.setIfInBounds_toArray, List.set_cons_zero, List.set_cons_succ]
  refine wpAnyH_take (i := 1) (v := ?_) (by simp only [List.getElem?_toArray, List.getElem?_cons_succ, List.getElem?_cons_zero]; rfl) (by kernel_rfl) (by kernel_rfl) (by kernel_rfl) (by exact fun _ _ _ h => h) (Or.inl ⟨by rfl, ?_⟩) (by assumption) ?_
  rotate_left
  · (intro _ hSw; (try dsimp only at hSw); go_simp; (try with_reducible rfl))
  try simp only [Act.put, List.setIfInBounds_toArray, List.set_cons_zero, List.set_cons_succ]
  refine wpAnyH_take (i := 2) (v := ?_) (by simp only [List.getElem?_toArray, List.getElem?_cons_succ, List.getElem?_cons_zero]; rfl) (by kernel_rfl) (by kernel_rfl) (by kernel_rfl) (by exact fun _ _ _ h => h) (Or.inl ⟨by rfl, ?_⟩) (by assumption) ?_
  rotate_left
  · (intro _ hSw; (try dsimp only at hSw); go_simp; (try with_reducible rfl))
  try simp only [Act.put, List.setIfInBounds_toArray, List.set_cons_zero, List.set_cons_succ]
  refine wpAnyH_take (i := 3) (v := ?_) (by simp only [List.getElem?_toArray, List.getElem?_cons_succ, List.getElem?_cons_zero]; rfl) (by kernel_rfl) (by kernel_rfl) (by kernel_rfl) (by exact fun _ _ _ h => h) (Or.inl ⟨by rfl, ?_⟩) (by assumption) ?_
  rotate_left
  · (intro _ hSw; (try dsimp only at hSw); go_simp; (try with_reducible rfl))
  try simp only [Act.put, List.setIfInBounds_toArray, List.set_cons_zero, List.set_cons_succ]
  refine wpAnyH_take (i := 5) (v := ?_) (by simp only [List.getElem?_toArray, List.getElem?_cons_succ, List.getElem?_cons_zero]; rfl) (by kernel_rfl) (by kernel_rfl) (by kernel_rfl) (by exact fun _ _ _ h => h) (Or.inl ⟨by rfl, ?_⟩) (by assumption) ?_
  rotate_left
  · (intro _ hSw; (try dsimp only at hSw); go_simp; (try with_reducible rfl))
  try simp only [Act.put, List.setIfInBounds_toArray, List.set_cons_zero, List.set_cons_succ]
  refine wpAnyH_take (i := 6) (v := ?_) (by simp only [List.getElem?_toArray, List.getElem?_cons_succ, List.getElem?_cons_zero]; rfl) (by kernel_rfl) (by kernel_rfl) (by kernel_rfl) (by exact fun _ _ _ h => h) (Or.inl ⟨by rfl, ?_⟩) (by assumption) ?_
  rotate_left
  · (intro _ hSw; (try dsimp only at hSw); go_simp; (try with_reducible rfl))
  try simp only [Act.put, List.setIfInBounds_toArray, List.set_cons_zero, List.set_cons_succ]
  refine wpAnyH_take (i := 7) (v := ?_) (by simp only [List.getElem?_toArray, List.getElem?_cons_succ, List.getElem?_cons_zero]; rfl) (by kernel_rfl) (by kernel_rfl) (by kernel_rfl) (by exact fun _ _ _ h => h) (Or.inl ⟨by rfl, ?_⟩) (by assumption) ?_
  rotate_left
  · (intro _ hSw; (try dsimp only at hSw); go_simp; (try with_reducible rfl))
  try simp only [Act.put, List.setIfInBounds_toArray, List.set_cons_zero, List.set_cons_succ]
  refine wpAnyH_take (i := 8) (v := ?_) (by simp only [List.getElem?_toArray, List.getElem?_cons_succ, List.getElem?_cons_zero]; rfl) (by kernel_rfl) (by kernel_rfl) (by kernel_rfl) (by exact fun _ _ _ h => h) (Or.inl ⟨by rfl, ?_⟩) (by assumption) ?_
  rotate_left
  · (intro _ hSw; (try dsimp only at hSw); go_simp; (try with_reducible rfl))
  try simp only [Act.put, List.setIfInBounds_toArray, List.set_cons_zero, List.set_cons_succ]
  refine wpAnyH_take (i := 9) (v := ?_) (by simp only [List.getElem?_toArray, List.getElem?_cons_succ, List.getElem?_cons_zero]; rfl) (by kernel_rfl) (by kernel_rfl) (by kernel_rfl) (by exact fun _ _ _ h => h) (Or.inl ⟨by rfl, ?_⟩) (by assumption) ?_
  rotate_left
  · (intro _ hSw; (try dsimp only at hSw); go_simp; (try with_reducible rfl))
  try simp only [Act.put, List.setIfInBounds_toArray, List.set_cons_zero, List.set_cons_succ]
  refine wpAnyH_take (i := 10) (v := ?_) (by simp only [List.getElem?_toArray, List.getElem?_cons_succ, List.getElem?_cons_zero]; rfl) (by kernel_rfl) (by kernel_rfl) (by kernel_rfl) (by exact fun _ _ _ h => h) (Or.inl ⟨by rfl, ?_⟩) (by assumption) ?_
  rotate_left
  · (intro _ hSw; (try dsimp only at hSw); go_simp; (try with_reducible rfl))
  try simp only [Act.put, List.setIfInBounds_toArray, List.set_cons_zero, List.set_cons_succ]
  refine wpAnyH_take (i := 11) (v := ?_) (by simp only [List.getElem?_toArray, List.getElem?_cons_succ, List.getElem?_cons_zero]; rfl) (by kernel_rfl) (by kernel_rfl) (by kernel_rfl) (by exact fun _ _ _ h => h) (Or.inl ⟨by rfl, ?_⟩) (by assumption) ?_
  rotate_left
  · (intro _ hSw; (try dsimp only at hSw); go_simp; (try with_reducible rfl))
  try simp only [Act.put, List.setIfInBounds_toArray, List.set_cons_zero, List.set_cons_succ]
  refine wpAnyH_take (i := 12) (v := ?_) (by simp only [List.getElem?_toArray, List.getElem?_cons_succ, List.getElem?_cons_zero]; rfl) (by kernel_rfl) (by kernel_rfl) (by kernel_rfl) (by exact fun _ _ _ h => h) (Or.inl ⟨by rfl, ?_⟩) (by assumption) ?_
  rotate_left
  · (intro _ hSw; (try dsimp only at hSw); go_simp; (try with_reducible rfl))
  try simp only [Act.put, List.setIfInBounds_toArray, List.set_cons_zero, List.set_cons_succ]
  refine wpAnyH_ready (rs := [4, 13]) (by kernel_rfl) (by simp) ?_
  refine AllReadyH.cons (by simp only [List.getElem?_toArray, List.getElem?_cons_succ, List.getElem?_cons_zero]; rfl) (fun Kq hKq => ?_) (AllReadyH.cons (by simp only [List.getElem?_toArray, List.getElem?_cons_succ, List.getElem?_cons_zero]; rfl) (fun Kq hKq => ?_) AllReadyH.nil)
  · have hz2 := HC3.out zd HDW.out
    go_simp
    clear hz2
    refine hKq.out _ _ ?_ (fun hHeldN => ?_)
    · exact HSX.out _ (HDW.out).of_no
    clear hKq Kq hHeld
    have hHeld := hHeldN
    clear hHeldN
    refine wpAnyH_ready (rs := [13]) (by kernel_rfl) (by simp) ?_
    refine AllReadyH.cons (by simp only [List.getElem?_toArray, List.getElem?_cons_succ, List.getElem?_cons_zero]; rfl) (fun Kq hKq => ?_) AllReadyH.nil
    go_simp
    refine hKq.out _ _ ?_ (fun hHeldN => ?_)
    · exact HSX.out _ ((HDW.out).alloc _).of_no
    clear hKq Kq hHeld
    have hHeld := hHeldN
    clear hHeldN
    refine wpAnyH_ready (rs := [14]) (by kernel_rfl) (by simp) ?_
    refine AllReadyH.cons (by simp only [List.getElem?_toArray, List.getElem?_cons_succ, List.getElem?_cons_zero]; rfl) (fun Kq hKq => ?_) AllReadyH.nil
    refine step_winApp okU rfl (.tmp 20) (.tmp 29) rfl o n c s.fl rfl HLN.out.1 (HLN.out.2.1.keepsN (HDW.out.alloc _)) ⟨zd.heap.size, 0, none⟩ 1 1 [⟨M, a, b, bs⟩] rfl rfl (lit_row okU zd [⟨M, a, b, bs⟩] _ (0, 0) rfl) HLN.out.2.2.1 HLN.out.2.2.2 ?_
    intro o9 c9 w9 ho9 ha9
    have HE : Hid (w9.cell? ⟨p, 3, none⟩ = some (.slice o n c) ∧ w9.frozen? ⟨p, 3, none⟩ = false ∧ w9.cell? ⟨p, 2, none⟩ = some (.int .i64 (M : Nat)) ∧ (w9.setCell ⟨p, 3, none⟩ (.slice o9 (n + 1) c9)).cell? ⟨p, 2, none⟩ = some (.int .i64 (M : Nat)) ∧ NTo IsN w p F (.int .i64 (M : Nat)) (putS s a b bs) (.returned (.int .i64 (M : Nat))) (w9.setCell ⟨p, 3, none⟩ (.slice o9 (n + 1) c9))) := HFN.out o9 c9 zd w9 HDW.out ho9 ha9
    clear ho9 ha9
    have e1 := HE.out.1
    have e2 := HE.out.2.1
    have e3 := HE.out.2.2.2.1
    have HFE := HE.out.2.2.2.2
    have HFF : Hid (NTo IsN w p F (.int .i64 (M : Nat)) (putS s a b bs) (.returned (.int .i64 (M : Nat))) (w9.setCell ⟨p, 3, none⟩ (.slice o9 (n + 1) c9))) := HFE
    clear HFE
    refine hKq.out _ _ ?_ (fun hHeldN => ?_)
    · exact HE.out.2.2.1
    clear hKq Kq hHeld
    have hHeld := hHeldN
    clear hHeldN
    refine wpAnyH_take (i := 15) (v := ?_) (by simp only [List.getElem?_toArray, List.getElem?_cons_succ, List.getElem?_cons_zero]; rfl) (by kernel_rfl) (by kernel_rfl) (by kernel_rfl) (by exact fun _ _ _ h => h) (Or.inl ⟨by rfl, ?_⟩) (by assumption) ?_
    rotate_left
    · (intro _ hSw; (try dsimp only at hSw); go_simp; (try with_reducible rfl))
    try simp only [Act.put, List.setIfInBounds_toArray, List.set_cons_zero, List.set_cons_succ]
    refine wpAnyH_take (i := 16) (v := ?_) (by simp only [List.getElem?_toArray, List.getElem?_cons_succ, List.getElem?_cons_zero]; rfl) (by kernel_rfl) (by kernel_rfl) (by kernel_rfl) (by exact fun _ _ _ h => h) (Or.inl ⟨by rfl, ?_⟩) (by assumption) ?_
    rotate_left
    · (intro _ hSw; (try dsimp only at hSw); go_simp; (try with_reducible rfl))
    try simp only [Act.put, List.setIfInBounds_toArray, List.set_cons_zero, List.set_cons_succ]
    refine wpAnyH_ready (rs := [17]) (by kernel_rfl) (by simp) ?_
    refine AllReadyH.cons (by simp only [List.getElem?_toArray, List.getElem?_cons_succ, List.getElem?_cons_zero]; rfl) (fun Kq hKq => ?_) AllReadyH.nil
    go_simp
    refine hKq.out _ _ ?_ (fun hHeldN => ?_)
    · exact HE.out.2.2.2.1
    clear hKq Kq hHeld
    have hHeld := hHeldN
    clear hHeldN
    refine wpAnyH_done (by kernel_rfl) ?_ _
    clear hHeld HE
    go_wp2_with fail
    go_ret
    exact HFF.out
  · go_simp
    refine hKq.out _ _ ?_ (fun hHeldN => ?_)
    · exact HSX.out _ ((HDW.out).alloc _).of_no
    clear hKq Kq hHeld
    have hHeld := hHeldN
    clear hHeldN
    refine wpAnyH_ready (rs := [4]) (by kernel_rfl) (by simp) ?_
    refine AllReadyH.cons (by simp only [List.getElem?_toArray, List.getElem?_cons_succ, List.getElem?_cons_zero]; rfl) (fun Kq hKq => ?_) AllReadyH.nil
    have hz2 := HC3.out (zd.alloc (.cells #[.int .i64 (M : Nat), .int .i64 a, .int .i64 b, .string (mkT bs)] 67)) (HDW.out.alloc _)
    go_simp
    clear hz2
    refine hKq.out _ _ ?_ (fun hHeldN => ?_)
    · exact HSX.out _ ((HDW.out.alloc _)).of_no
    clear hKq Kq hHeld
    have hHeld := hHeldN
    clear hHeldN
    refine wpAnyH_ready (rs := [14]) (by kernel_rfl) (by simp) ?_
    refine AllReadyH.cons (by simp only [List.getElem?_toArray, List.getElem?_cons_succ, List.getElem?_cons_zero]; rfl) (fun Kq hKq => ?_) AllReadyH.nil
    refine step_winApp okU rfl (.tmp 20) (.tmp 29) rfl o n c s.fl rfl HLN.out.1 (HLN.out.2.1.keepsN (HDW.out.alloc _)) ⟨zd.heap.size, 0, none⟩ 1 1 [⟨M, a, b, bs⟩] rfl rfl (lit_row okU zd [⟨M, a, b, bs⟩] _ (0, 0) rfl) HLN.out.2.2.1 HLN.out.2.2.2 ?_
    intro o9 c9 w9 ho9 ha9
    have HE : Hid (w9.cell? ⟨p, 3, none⟩ = some (.slice o n c) ∧ w9.frozen? ⟨p, 3, none⟩ = false ∧ w9.cell? ⟨p, 2, none⟩ = some (.int .i64 (M : Nat)) ∧ (w9.setCell ⟨p, 3, none⟩ (.slice o9 (n + 1) c9)).cell? ⟨p, 2, none⟩ = some (.int .i64 (M : Nat)) ∧ NTo IsN w p F (.int .i64 (M : Nat)) (putS s a b bs) (.returned (.int .i64 (M : Nat))) (w9.setCell ⟨p, 3, none⟩ (.slice o9 (n + 1) c9))) := HFN.out o9 c9 zd w9 HDW.out ho9 ha9
    clear ho9 ha9
    have e1 := HE.out.1
    have e2 := HE.out.2.1
    have e3 := HE.out.2.2.2.1
    have HFE := HE.out.2.2.2.2
    have HFF : Hid (NTo IsN w p F (.int .i64 (M : Nat)) (putS s a b bs) (.returned (.int .i64 (M : Nat))) (w9.setCell ⟨p, 3, none⟩ (.slice o9 (n + 1) c9))) := HFE
    clear HFE
    refine hKq.out _ _ ?_ (fun hHeldN => ?_)
    · exact HE.out.2.2.1
    clear hKq Kq hHeld
    have hHeld := hHeldN
    clear hHeldN
    refine wpAnyH_take (i := 15) (v := ?_) (by simp only [List.getElem?_toArray, List.getElem?_cons_succ, List.getElem?_cons_zero]; rfl) (by kernel_rfl) (by kernel_rfl) (by kernel_rfl) (by exact fun _ _ _ h => h) (Or.inl ⟨by rfl, ?_⟩) (by assumption) ?_
    rotate_left
    · (intro _ hSw; (try dsimp only at hSw); go_simp; (try with_reducible rfl))
    try simp only [Act.put, List.setIfInBounds_toArray, List.set_cons_zero, List.set_cons_succ]
    refine wpAnyH_take (i := 16) (v := ?_) (by simp only [List.getElem?_toArray, List.getElem?_cons_succ, List.getElem?_cons_zero]; rfl) (by kernel_rfl) (by kernel_rfl) (by kernel_rfl) (by exact fun _ _ _ h => h) (Or.inl ⟨by rfl, ?_⟩) (by assumption) ?_
    rotate_left
    · (intro _ hSw; (try dsimp only at hSw); go_simp; (try with_reducible rfl))
    try simp only [Act.put, List.setIfInBounds_toArray, List.set_cons_zero, List.set_cons_succ]
    refine wpAnyH_ready (rs := [17]) (by kernel_rfl) (by simp) ?_
    refine AllReadyH.cons (by simp only [List.getElem?_toArray, List.getElem?_cons_succ, List.getElem?_cons_zero]; rfl) (fun Kq hKq => ?_) AllReadyH.nil
    go_simp
    refine hKq.out _ _ ?_ (fun hHeldN => ?_)
    · exact HE.out.2.2.2.1
    clear hKq Kq hHeld
    have hHeld := hHeldN
    clear hHeldN
    refine wpAnyH_done (by kernel_rfl) ?_ _
    clear hHeld HE
    go_wp2_with fail
    go_ret
    exact HFF.out

set_option maxRecDepth 10000 in
theorem nSend_any (w : World) (p : Nat) (F : Nat → Prop) (s : NS) (K : Nat) (a b : Int) (o : Option Addr) (n c : Nat) (bs : List UInt8) (h : IsN w p F s) (hw : NWf s K) (hK : K ≤ 2600000000000) (hn : n = bs.length) (hl : bs.length ≤ 140737488355328) (hs : Sl BE w o c bs) (ho : ∀ i, inO o i → ¬ F i) :
    Calls Try.prog 9 #[.pointer (some ⟨p, 0, none⟩), .int .i64 a, .int .i64 b, .slice o n c] w (NTo IsN w p F (.tuple #[.int .i64 ((sendN s a b : Nat) : Int), .int .i64 (sendE s a b)]) (sendS s a b bs)) := by
  have HJ : Hid (Calls Try.prog 23 #[.pointer (some ⟨p, 0, none⟩), .int .i64 a, .int .i64 b] w fun e w' => e = .returned (.bool (canS s a b)) ∧ w' = w) := nJoins_any w p F s K a b h hw
  have HE : Hid (Calls Try.prog 24 #[.pointer (some ⟨p, 0, none⟩), .int .i64 a, .int .i64 b, .string (mkT bs)] w (NTo IsN w p F (.int .i64 (((s.num + 1 : Nat)) : Int)) (putS s a b bs))) := nEnter_any w p F s K a b bs h hw hK
  have hcv := run_text w o bs n c hn hs.row
  unfold sendN sendE sendS
  by_cases hc : canS s a b = true
  · rw [if_pos hc, if_pos hc, if_pos hc]
    rw [hc] at HJ
    clear h hw hK hn hl hs ho hc
    go_enter Try.func9, Try.ntmps9
    go_wp2_with fail
    refine HJ.out.mono ?_
    rintro e wz ⟨rfl, rfl⟩
    go_wp2_with fail
    refine HE.out.mono ?_
    rintro e w' ⟨rfl, hG⟩
    have HG : Hid (∃ G, IsN w' p G (putS s a b bs) ∧ (∀ i, G i → F i ∨ wz.heap.size ≤ i) ∧ Keeps F wz w') := hG
    clear hG HJ HE hcv
    go_wp2_with fail
    go_ret2
    exact ⟨rfl, HG.out⟩
  · rw [if_neg hc, if_neg hc, if_neg hc]
    have hcf : canS s a b = false := by simpa using hc
    rw [hcf] at HJ
    have HI : Hid (IsN w p F s) := h
    clear h hw hK hn hl hs ho hc hcf
    go_enter Try.func9, Try.ntmps9
    go_wp2_with fail
    refine HJ.out.mono ?_
    rintro e wz ⟨rfl, rfl⟩
    go_wp2_with fail
    go_ret2
    exact ⟨rfl, F, HI.out, fun i hi => .inl hi, Keeps.refl _ _⟩
end Go.Proofs.Ytdbejihkliafiaa
