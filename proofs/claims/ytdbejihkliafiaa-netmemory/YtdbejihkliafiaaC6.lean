/- The net's Deliver, Lose, Twin. -/
import Derived.Test.YtdbejihkliafiaaC5
namespace Go.Proofs.Ytdbejihkliafiaa
open Go.RowKit Go.Sort
set_option linter.unusedVariables false
set_option linter.unusedSimpArgs false

/-- two results, the first a struct in a cell -/
theorem results_rowN {fn : Func} {p u : Tmp} {ty : TypeId} (h : fn.results = #[.cell p ty, .tmp u]) (tmps : Array Value) (w : World) (g : Nat) (cs : Array Value)
    (hp : tmps.getD p undef = .pointer (some ⟨g, 0, none⟩)) (hl : (loadVar ty ⟨g, 0, none⟩).run Try.prog w = .ok (.agg cs) w) :
    (results fn tmps).run Try.prog w = .ok (.tuple #[.agg cs, tmps.getD u undef]) w := by
  have hp' : tmps[p]?.getD undef = .pointer (some ⟨g, 0, none⟩) := by simpa using hp
  simp [results, h, hp', asAddr, hl]
/-- the cells of the j-th -/
theorem win_at {w : World} {o : Option Addr} {c : Nat} {xs : List Fr} (h : Win UE w o c xs) {j : Nat} (hj : j < xs.length) : ∃ g off, o = some ⟨g, off, none⟩ ∧ w.cell? ⟨g, off + j * 4, none⟩ = some (.int .i64 ((xs.getD j fr0).num : Nat)) ∧ w.cell? ⟨g, off + j * 4 + 1, none⟩ = some (.int .i64 (xs.getD j fr0).frm) ∧ w.cell? ⟨g, off + j * 4 + 2, none⟩ = some (.int .i64 (xs.getD j fr0).dst) ∧ w.cell? ⟨g, off + j * 4 + 3, none⟩ = some (.string (mkT (xs.getD j fr0).bs)) := by
  rcases h.row with e | ⟨g, off, rfl, hc⟩
  · subst e; simp at hj
  · have key : ∀ i, i < 4 → ∀ u, (UE.enc (xs.getD j fr0))[i]? = some u → w.cell? ⟨g, off + j * 4 + i, none⟩ = some u := by
      intro i hi u hu
      rw [Nat.add_assoc]
      refine hc (j * 4 + i) _ ?_
      have := cells_at okU fr0 xs j i hj hi
      rw [show j * 4 + i = j * UE.k + i from rfl, this]
      exact hu
    exact ⟨g, off, rfl, key 0 (by decide) _ rfl, key 1 (by decide) _ rfl, key 2 (by decide) _ rfl, key 3 (by decide) _ rfl⟩
theorem nto_none {w w' : World} {p : Nat} {F : Nat → Prop} {s : NS} {pl : Int} (h : IsN w p F s) (hh : ¬ hasS s pl = true) (k : Keeps no w w') : DTo IsN w p F s pl (.returned (.tuple #[.agg #[.int .i64 0, .int .i64 0, .int .i64 0, .slice none 0 0], .int .i64 210])) w' := by
  have e1 : errS s pl = 210 := by unfold errS; rw [if_neg hh]
  have e2 : delF s pl = fr0 := by unfold delF; rw [if_neg hh]
  have e3 : delS s pl = s := by unfold delS; rw [if_neg hh]
  refine ⟨rf0, F, by rw [e1]; rfl, by rw [e2]; exact fof_zero w', fun i hi => ?_, by rw [e3]; exact h.keepsN k, fun i hi => .inl hi, k.of_no⟩
  have := hi.1
  simp [rf0] at this
set_option maxRecDepth 10000 in
set_option maxHeartbeats 4000000 in
theorem nDeliver_no (w : World) (p : Nat) (F : Nat → Prop) (s : NS) (K : Nat) (pl : Int) (h : IsN w p F s) (hh : ¬ hasS s pl = true) :
    Calls Try.prog 12 #[.pointer (some ⟨p, 0, none⟩), .int .i64 pl] w (DTo IsN w p F s pl) := by
  obtain ⟨B, hB⟩ : ∃ B, B = w.heap.size := ⟨_, rfl⟩
  have HU : Hid (∀ U, U = w.alloc (.cells #[.int .i64 0, .int .i64 0, .int .i64 0, .slice none 0 0] 33) → U.heap[B]? = some (.cells #[.int .i64 0, .int .i64 0, .int .i64 0, .slice none 0 0] 33 (0, 0)) ∧ Keeps no w U ∧ Calls Try.prog 25 #[.pointer (some ⟨p, 0, none⟩), .int .i64 pl] U fun e w' => e = .returned (.bool false) ∧ w' = U) := by
    rintro U rfl
    have k : Keeps no w (w.alloc (.cells #[.int .i64 0, .int .i64 0, .int .i64 0, .slice none 0 0] 33)) := (Keeps.refl _ _).alloc _
    have hf : hasS s pl = false := by simpa using hh
    have := nHas_any _ p F s pl (h.keepsN k)
    rw [hf] at this
    exact ⟨by rw [hB]; exact blk_new w _, k, this⟩
  have HZ : Hid (∀ w', Keeps no w w' → DTo IsN w p F s pl (.returned (.tuple #[.agg #[.int .i64 0, .int .i64 0, .int .i64 0, .slice none 0 0], .int .i64 210])) w') := fun w' k => nto_none h hh k
  have HBw : Hid (w.heap.size ≤ B) := by rw [hB]; exact Nat.le_refl _
  clear h hh
  go_enter Try.func12, Try.ntmps12
  go_upto_region 1 with fail
  have hU := HU.out _ rfl
  rw [← hB]
  generalize w.alloc (.cells #[.int .i64 0, .int .i64 0, .int .i64 0, .slice none 0 0] 33) = U at hU ⊢
  obtain ⟨hUb, hUk, hUc⟩ := hU
  have HUC : Hid (Calls Try.prog 25 #[.pointer (some ⟨p, 0, none⟩), .int .i64 pl] U fun e w' => e = .returned (.bool false) ∧ w' = U) := hUc
  have HUK : Hid (Keeps no w U) := hUk
  have y0 := cell_of_blk hUb 0
  have y1 := cell_of_blk hUb 1
  have y2 := cell_of_blk hUb 2
  have y3 := cell_of_blk hUb 3
  have f0 := frozen_of_blk hUb 0
  have f1 := frozen_of_blk hUb 1
  have f2 := frozen_of_blk hUb 2
  have f3 := frozen_of_blk hUb 3
  simp only [List.getElem?_toArray, List.getElem?_cons_succ, List.getElem?_cons_zero] at y0 y1 y2 y3
  have HV : Hid (∀ W, W = U.setCells B 0 [.int .i64 0, .int .i64 0, .int .i64 0, .slice none 0 0] → W.heap[B]? = some (.cells #[.int .i64 0, .int .i64 0, .int .i64 0, .slice none 0 0] 33 (0, 0)) ∧ Keeps no w W) := by
    rintro W rfl
    exact ⟨blk_whole hUb _ rfl, keeps_setCells' _ _ HUK.out (.inr HBw.out)⟩
  clear hUb hUk hUc HU hB
  go_wp2_with fail
  refine HUC.out.mono ?_
  rintro e w' ⟨rfl, hww⟩
  subst w'
  go_wp2_with fail
  have hE := HV.out _ rfl
  (try simp only [Exit.inBlock, Exit.then])
  refine bodyPost_ret (results_rowN rfl _ _ B _ rfl (run_loadVar_row _ _ _ _ _ _ _ hE.1 Try.underlying33 rfl (fr_size _ _ _ _))) rfl ?_
  exact HZ.out _ hE.2
set_option maxRecDepth 10000 in
set_option maxHeartbeats 4000000 in
theorem nDeliver_yes (w : World) (p : Nat) (F : Nat → Prop) (s : NS) (K k : Nat) (h : IsN w p F s) (hw : NWf s K) (hK : K ≤ 2600000000000) (hk : k < s.fl.length) :
    Calls Try.prog 12 #[.pointer (some ⟨p, 0, none⟩), .int .i64 k] w (DTo IsN w p F s k) := by
  obtain ⟨B, hB⟩ : ∃ B, B = w.heap.size := ⟨_, rfl⟩
  have hh : hasS s (k : Int) = true := (has_iff s k).2 ⟨k, rfl, hk⟩
  have HU : Hid (∀ U, U = w.alloc (.cells #[.int .i64 0, .int .i64 0, .int .i64 0, .slice none 0 0] 33) → U.heap[B]? = some (.cells #[.int .i64 0, .int .i64 0, .int .i64 0, .slice none 0 0] 33 (0, 0)) ∧ Keeps no w U ∧ U.heap.size = B + 1 ∧ Calls Try.prog 25 #[.pointer (some ⟨p, 0, none⟩), .int .i64 k] U fun e w' => e = .returned (.bool true) ∧ w' = U) := by
    rintro U rfl
    have ka : Keeps no w (w.alloc (.cells #[.int .i64 0, .int .i64 0, .int .i64 0, .slice none 0 0] 33)) := (Keeps.refl _ _).alloc _
    have := nHas_any _ p F s (k : Int) (h.keepsN ka)
    rw [hh] at this
    exact ⟨by rw [hB]; exact blk_new w _, ka, by rw [hB]; simp, this⟩
  have HI : Hid (IsN w p F s ∧ NWf s K ∧ K ≤ 2600000000000 ∧ k < s.fl.length ∧ B = w.heap.size) := ⟨h, hw, hK, hk, hB⟩
  obtain ⟨o, n, c, h⟩ := h
  obtain ⟨-, -, -, c3⟩ := h.cells
  obtain ⟨g, off, rfl, a0, a1, a2, a3⟩ := win_at h.win hk
  obtain ⟨f, hf⟩ : ∃ f, f = s.fl.getD k fr0 := ⟨_, rfl⟩
  rw [← hf] at a0 a1 a2 a3
  have hbl : f.bs.length ≤ 140737488355328 := by rw [hf]; exact (hw.each _ (getD_mem_lt fr0 hk)).2.1
  have HF : Hid (f = s.fl.getD k fr0 ∧ f.bs.length ≤ 140737488355328) := ⟨hf, hbl⟩
  have hkn : (k : Int) < (n : Int) := by have := h.n; omega
  have hk0 : ¬ (k : Int) < 0 := by omega
  clear h hw hK hk hf hbl hh
  go_enter Try.func12, Try.ntmps12
  go_upto_region 1 with fail
  have hU := HU.out _ rfl
  rw [← hB]
  generalize w.alloc (.cells #[.int .i64 0, .int .i64 0, .int .i64 0, .slice none 0 0] 33) = U at hU ⊢
  obtain ⟨hUb, hUk, hUs, hUc⟩ := hU
  have HUC : Hid (Calls Try.prog 25 #[.pointer (some ⟨p, 0, none⟩), .int .i64 k] U fun e w' => e = .returned (.bool true) ∧ w' = U) := hUc
  have HUK : Hid (Keeps no w U ∧ U.heap.size = B + 1 ∧ U.heap[B]? = some (.cells #[.int .i64 0, .int .i64 0, .int .i64 0, .slice none 0 0] 33 (0, 0))) := ⟨hUk, hUs, hUb⟩
  have d3 := hUk.cellN c3
  have b0 := hUk.cellN a0
  have b1 := hUk.cellN a1
  have b2 := hUk.cellN a2
  have b3 := hUk.cellN a3
  clear c3 a0 a1 a2 a3 hUb hUk hUs hUc HU hB
  obtain ⟨q0, q1, q2, q3⟩ := f
  simp only at b0 b1 b2 b3
  go_wp2_with fail
  refine HUC.out.mono ?_
  rintro e w' ⟨rfl, hww⟩
  subst w'
  go_wp2_with fail
  refine (frame_any U ⟨q0, q1, q2, q3⟩ HF.out.2).mono ?_
  rintro e w1 ⟨r, rfl, hr, hrn, hrk⟩
  obtain ⟨r0, r1, r2, ro, rn, rc⟩ := r
  unfold aggF
  simp only
  obtain ⟨B2, hB2⟩ : ∃ B2, B2 = w1.heap.size := ⟨_, rfl⟩
  have HW : Hid (∀ W, W = w1.alloc (.cells #[.int .i64 (r0 : Nat), .int .i64 r1, .int .i64 r2, .slice ro rn rc] 33) → W.heap[B2]? = some (.cells #[.int .i64 (r0 : Nat), .int .i64 r1, .int .i64 r2, .slice ro rn rc] 33 (0, 0)) ∧ Keeps no U W ∧ FOf W ⟨r0, r1, r2, ro, rn, rc⟩ ⟨q0, q1, q2, q3⟩ ∧ (∀ i, zO ro rc i → U.heap.size ≤ i) ∧ U.heap.size ≤ B2) := by
    rintro W rfl
    have ka := (Keeps.refl no w1).alloc (.cells #[.int .i64 (r0 : Nat), .int .i64 r1, .int .i64 r2, .slice ro rn rc] 33)
    exact ⟨by rw [hB2]; exact blk_new w1 _, hrk.trans ka, hr.keepsN ka, hrn, by rw [hB2]; exact hrk.size⟩
  clear b0 b1 b2 b3 hr hrn d3 HUC
  go_upto_region 4 with fail
  have hW := HW.out _ rfl
  rw [← hB2]
  generalize w1.alloc (.cells #[.int .i64 (r0 : Nat), .int .i64 r1, .int .i64 r2, .slice ro rn rc] 33) = W at hW ⊢
  have HWW : Hid (W.heap[B2]? = some (.cells #[.int .i64 (r0 : Nat), .int .i64 r1, .int .i64 r2, .slice ro rn rc] 33 (0, 0)) ∧ Keeps no U W ∧ FOf W ⟨r0, r1, r2, ro, rn, rc⟩ ⟨q0, q1, q2, q3⟩ ∧ (∀ i, zO ro rc i → U.heap.size ≤ i) ∧ U.heap.size ≤ B2) := hW
  clear hW HW hB2 hrk
  go_wp2_with fail
  refine (leave_any W p F s K k ((HI.out.1.keepsN HUK.out.1).keepsN HWW.out.2.1) HI.out.2.1 HI.out.2.2.1 HI.out.2.2.2.1).mono ?_
  rintro e w2 ⟨rfl, hn2, hk2⟩
  have HN2 : Hid (IsN w2 p F (delS s (k : Int)) ∧ Keeps F W w2) := ⟨hn2, hk2⟩
  have HNF : Hid (∀ i, w.heap.size ≤ i → ¬ F i) := fun i hi hF => by have := HI.out.1.lt i hF; omega
  have hBw : w.heap.size ≤ B := by rw [HI.out.2.2.2.2]; exact Nat.le_refl _
  have hUB := HUK.out.2.1
  have hB2 := HWW.out.2.2.2.2
  have hx := hk2.at HWW.out.1 (HNF.out B2 (by omega))
  have hy := hk2.at (HWW.out.2.1.at HUK.out.2.2 (fun h => h)) (HNF.out B hBw)
  have x0 := cell_of_blk hx 0
  have x1 := cell_of_blk hx 1
  have x2 := cell_of_blk hx 2
  have x3 := cell_of_blk hx 3
  have y0 := cell_of_blk hy 0
  have y1 := cell_of_blk hy 1
  have y2 := cell_of_blk hy 2
  have y3 := cell_of_blk hy 3
  have f0 := frozen_of_blk hy 0
  have f1 := frozen_of_blk hy 1
  have f2 := frozen_of_blk hy 2
  have f3 := frozen_of_blk hy 3
  simp only [List.getElem?_toArray, List.getElem?_cons_succ, List.getElem?_cons_zero] at x0 x1 x2 x3 y0 y1 y2 y3
  have HV : Hid (∀ V, V = w2.setCells B 0 [.int .i64 (r0 : Nat), .int .i64 r1, .int .i64 r2, .slice ro rn rc] → V.heap[B]? = some (.cells #[.int .i64 (r0 : Nat), .int .i64 r1, .int .i64 r2, .slice ro rn rc] 33 (0, 0)) ∧ DTo IsN w p F s k (.returned (.tuple #[.agg #[.int .i64 (r0 : Nat), .int .i64 r1, .int .i64 r2, .slice ro rn rc], .int .i64 0])) V) := by
    rintro V rfl
    have kV : Keeps (fun i => i = B) w2 (w2.setCells B 0 [.int .i64 (r0 : Nat), .int .i64 r1, .int .i64 r2, .slice ro rn rc]) := keeps_setCells' _ _ (Keeps.refl _ w2) (.inl rfl)
    have hzr := HWW.out.2.2.2.1
    have e1 : errS s (k : Int) = 0 := by unfold errS; rw [if_pos ((has_iff s k).2 ⟨k, rfl, HI.out.2.2.2.1⟩)]
    have e2 : delF s (k : Int) = ⟨q0, q1, q2, q3⟩ := by unfold delF; rw [if_pos ((has_iff s k).2 ⟨k, rfl, HI.out.2.2.2.1⟩)]; exact HF.out.1.symm
    have hUk := HUK.out.1.size
    refine ⟨blk_whole hy _ rfl, ⟨r0, r1, r2, ro, rn, rc⟩, F, by rw [e1]; rfl, ?_, fun i hi => ?_, HN2.out.1.keeps kV (fun i hi e => HNF.out B hBw (e ▸ hi)), fun i hi => .inl hi, ?_⟩
    · rw [e2]
      refine (HWW.out.2.2.1.keeps HN2.out.2 (fun i hi => HNF.out i ?_)).keeps kV (fun i hi e => ?_)
      · have := hzr i hi; omega
      · have := hzr i hi; omega
    · have := hzr i hi
      exact ⟨.inr (by omega), HNF.out i (by omega)⟩
    · exact (((HUK.out.1.trans HWW.out.2.1).of_no : Keeps F w W).trans HN2.out.2).then kV (fun i hi => .inr (by omega))
  clear hx hy hn2 hk2 hBw hUB hB2
  go_wp2_with fail
  have hE := HV.out _ rfl
  (try simp only [Exit.inBlock, Exit.then])
  refine bodyPost_ret (results_rowN rfl _ _ B _ rfl (run_loadVar_row _ _ _ _ _ _ _ hE.1 Try.underlying33 rfl (fr_size _ _ _ _))) rfl ?_
  exact hE.2
theorem nDeliver_any (w : World) (p : Nat) (F : Nat → Prop) (s : NS) (K : Nat) (pl : Int) (h : IsN w p F s) (hw : NWf s K) (hK : K ≤ 2600000000000) :
    Calls Try.prog 12 #[.pointer (some ⟨p, 0, none⟩), .int .i64 pl] w (DTo IsN w p F s pl) := by
  by_cases hh : hasS s pl = true
  · obtain ⟨k, rfl, hk⟩ := (has_iff s pl).1 hh
    exact nDeliver_yes w p F s K k h hw hK hk
  · exact nDeliver_no w p F s K pl h hh
theorem nLose_any (w : World) (p : Nat) (F : Nat → Prop) (s : NS) (K : Nat) (pl : Int) (h : IsN w p F s) (hw : NWf s K) (hK : K ≤ 2600000000000) :
    Calls Try.prog 13 #[.pointer (some ⟨p, 0, none⟩), .int .i64 pl] w (NTo IsN w p F (.int .i64 (errS s pl)) (delS s pl)) := by
  have HH : Hid (Calls Try.prog 25 #[.pointer (some ⟨p, 0, none⟩), .int .i64 pl] w fun e w' => e = .returned (.bool (hasS s pl)) ∧ w' = w) := nHas_any w p F s pl h
  by_cases hh : hasS s pl = true
  · have e1 : errS s pl = 0 := by unfold errS; rw [if_pos hh]
    rw [e1]
    rw [hh] at HH
    obtain ⟨k, rfl, hk⟩ := (has_iff s pl).1 hh
    have HL : Hid (Calls Try.prog 27 #[.pointer (some ⟨p, 0, none⟩), .int .i64 (k : Nat)] w fun e w' => e = .returned (.tuple #[]) ∧ IsN w' p F (delS s (k : Int)) ∧ Keeps F w w') := leave_any w p F s K k h hw hK hk
    clear h hw hK hh hk e1
    go_enter Try.func13, Try.ntmps13
    go_wp2_with fail
    refine HH.out.mono ?_
    rintro e w' ⟨rfl, hww⟩
    subst w'
    go_wp2_with fail
    refine HL.out.mono ?_
    rintro e w1 ⟨rfl, h1, h2⟩
    have HX : Hid (IsN w1 p F (delS s (k : Int)) ∧ Keeps F w w1) := ⟨h1, h2⟩
    clear h1 h2
    go_wp2_with fail
    go_ret
    exact ⟨rfl, F, HX.out.1, fun i hi => .inl hi, HX.out.2⟩
  · have e1 : errS s pl = 210 := by unfold errS; rw [if_neg hh]
    have e2 : delS s pl = s := by unfold delS; rw [if_neg hh]
    have hf : hasS s pl = false := by simpa using hh
    rw [e1, e2]
    rw [hf] at HH
    have HI : Hid (IsN w p F s) := h
    clear h hw hK hh e1 e2 hf
    go_enter Try.func13, Try.ntmps13
    go_wp2_with fail
    refine HH.out.mono ?_
    rintro e w' ⟨rfl, hww⟩
    subst w'
    go_wp2_with fail
    go_ret
    exact ⟨rfl, F, HI.out, fun i hi => .inl hi, Keeps.refl _ _⟩
set_option maxRecDepth 10000 in
set_option maxHeartbeats 4000000 in
theorem nTwin_any (w : World) (p : Nat) (F : Nat → Prop) (s : NS) (K : Nat) (pl : Int) (h : IsN w p F s) (hw : NWf s K) (hK : K ≤ 2600000000000) :
    Calls Try.prog 14 #[.pointer (some ⟨p, 0, none⟩), .int .i64 pl] w (NTo IsN w p F (.tuple #[.int .i64 ((twinN s pl : Nat) : Int), .int .i64 (errS s pl)]) (twinS s pl)) := by
  have HH : Hid (Calls Try.prog 25 #[.pointer (some ⟨p, 0, none⟩), .int .i64 pl] w fun e w' => e = .returned (.bool (hasS s pl)) ∧ w' = w) := nHas_any w p F s pl h
  by_cases hh : hasS s pl = true
  · have e1 : errS s pl = 0 := by unfold errS; rw [if_pos hh]
    have e2 : twinN s pl = s.num + 1 := by unfold twinN; rw [if_pos hh]
    have e3 : twinS s pl = putS s (delF s pl).frm (delF s pl).dst (delF s pl).bs := by unfold twinS; rw [if_pos hh]
    rw [e1, e2, e3]
    rw [hh] at HH
    obtain ⟨k, rfl, hk⟩ := (has_iff s pl).1 hh
    have e4 : delF s (k : Int) = s.fl.getD k fr0 := by unfold delF; rw [if_pos hh]; rfl
    rw [e4]
    have HI : Hid (IsN w p F s ∧ NWf s K ∧ K ≤ 2600000000000) := ⟨h, hw, hK⟩
    obtain ⟨o, n, c, h⟩ := h
    obtain ⟨-, -, -, c3⟩ := h.cells
    obtain ⟨g, off, rfl, a0, a1, a2, a3⟩ := win_at h.win hk
    obtain ⟨f, hf⟩ : ∃ f, f = s.fl.getD k fr0 := ⟨_, rfl⟩
    rw [← hf] at a0 a1 a2 a3 ⊢
    have hkn : (k : Int) < (n : Int) := by have := h.n; omega
    have hk0 : ¬ (k : Int) < 0 := by omega
    obtain ⟨q0, q1, q2, q3⟩ := f
    simp only at a0 a1 a2 a3 ⊢
    have HE : Hid (∀ U, U = w.alloc (.cells #[.int .i64 (q0 : Nat), .int .i64 q1, .int .i64 q2, .string (mkT q3)] 67) → Calls Try.prog 24 #[.pointer (some ⟨p, 0, none⟩), .int .i64 q1, .int .i64 q2, .string (mkT q3)] U fun e w' => e = .returned (.int .i64 (((s.num + 1 : Nat)) : Int)) ∧ ∃ G, IsN w' p G (putS s q1 q2 q3) ∧ (∀ i, G i → F i ∨ w.heap.size ≤ i) ∧ Keeps F w w') := by
      rintro U rfl
      have ka : Keeps no w (w.alloc (.cells #[.int .i64 (q0 : Nat), .int .i64 q1, .int .i64 q2, .string (mkT q3)] 67)) := (Keeps.refl _ _).alloc _
      refine (nEnter_any _ p F s K q1 q2 q3 (HI.out.1.keepsN ka) HI.out.2.1 HI.out.2.2).mono ?_
      rintro e w' ⟨rfl, G, g1, g2, g3⟩
      exact ⟨rfl, G, g1, fun i hi => (g2 i hi).imp (fun h => h) (fun h => by have := ka.size; omega), ka.of_no.trans g3⟩
    obtain ⟨M, hM⟩ : ∃ M, M = s.num + 1 := ⟨_, rfl⟩
    rw [← hM] at HE ⊢
    clear h hw hK hh hk hf e1 e2 e3 e4 HI hM
    go_enter Try.func14, Try.ntmps14
    go_wp2_with fail
    refine HH.out.mono ?_
    rintro e w' ⟨rfl, hww⟩
    subst w'
    go_upto_region 4 with fail
    have hE := HE.out _ rfl
    have u0 := blk_new w (.cells #[.int .i64 (q0 : Nat), .int .i64 q1, .int .i64 q2, .string (mkT q3)] 67)
    generalize w.alloc (.cells #[.int .i64 (q0 : Nat), .int .i64 q1, .int .i64 q2, .string (mkT q3)] 67) = U at hE u0 ⊢
    have HEE : Hid (Calls Try.prog 24 #[.pointer (some ⟨p, 0, none⟩), .int .i64 q1, .int .i64 q2, .string (mkT q3)] U fun e w' => e = .returned (.int .i64 ((M : Nat) : Int)) ∧ ∃ G, IsN w' p G (putS s q1 q2 q3) ∧ (∀ i, G i → F i ∨ w.heap.size ≤ i) ∧ Keeps F w w') := hE
    have z1 := cell_of_blk u0 1
    have z2 := cell_of_blk u0 2
    have z3 := cell_of_blk u0 3
    simp only [List.getElem?_toArray, List.getElem?_cons_succ, List.getElem?_cons_zero] at z1 z2 z3
    clear hE u0 HE HH c3 a0 a1 a2 a3
    go_wp2_with fail
    refine HEE.out.mono ?_
    rintro e w1 ⟨rfl, hG⟩
    have HG : Hid (∃ G, IsN w1 p G (putS s q1 q2 q3) ∧ (∀ i, G i → F i ∨ w.heap.size ≤ i) ∧ Keeps F w w1) := hG
    clear hG HEE z1 z2 z3
    go_wp2_with fail
    go_ret2
    exact ⟨rfl, HG.out⟩
  · have e1 : errS s pl = 210 := by unfold errS; rw [if_neg hh]
    have e2 : twinN s pl = 0 := by unfold twinN; rw [if_neg hh]
    have e3 : twinS s pl = s := by unfold twinS; rw [if_neg hh]
    have hf : hasS s pl = false := by simpa using hh
    rw [e1, e2, e3]
    rw [hf] at HH
    have HI : Hid (IsN w p F s) := h
    clear h hw hK hh e1 e2 e3 hf
    go_enter Try.func14, Try.ntmps14
    go_wp2_with fail
    refine HH.out.mono ?_
    rintro e w' ⟨rfl, hww⟩
    subst w'
    go_wp2_with fail
    go_ret2
    exact ⟨rfl, F, HI.out, fun i hi => .inl hi, Keeps.refl _ _⟩
end Go.Proofs.Ytdbejihkliafiaa
