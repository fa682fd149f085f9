/- readEvent. -/
import Derived.Test.YtjkljljmjjnneaaGreatDoorP6
import Derived.Deep.RegionHeldLaw
import Derived.Deep.RegionHeld3
import Derived.Lib.QuietBelow
import Derived.BigQuiet
namespace Go.Proofs.YtjkljljmjjnneaaGreatDoor
open Go.RowKit Go.Sort Orl
set_option linter.unusedVariables false
set_option linter.unusedSimpArgs false

/-- a line as it is read -/
def eventP (p : List (List UInt8)) : Option Eb :=
  if p.length < 3 then none
  else match numR (p.getD 0 []), numR (p.getD 1 []) with
    | some c, some t => if 16 ≤ c then none else if t < 1 then none else if 9223372036854775807 < t then none
      else if p.getD 2 [] = [119, 114, 105, 116, 101] then writeE c t (p.drop 3)
      else if p.getD 2 [] = [114, 101, 97, 100] then readE c t (p.drop 3)
      else ansE c t (p.getD 2 []) (p.drop 3)
    | _, _ => none
def eventR (l : List UInt8) : Option Eb := eventP (splitL 32 l)
theorem slice3 (g off n : Nat) (h : 3 ≤ n) : ∃ so sn, (∀ W, (Instr.slice 31 (.slice (some ⟨g, off, none⟩) n n) (some (.int .i64 3)) none none).run Tryz.prog W = .ok (.slice so sn sn) W) ∧ ((n = 3 ∧ so = some ⟨g, off, none⟩ ∧ sn = 0) ∨ (3 < n ∧ so = some ⟨g, off + 3, none⟩ ∧ sn = n - 3)) := by
  have h3 : (3 : Int) ≤ (n : Int) := by omega
  by_cases e : n = 3
  · subst e
    refine ⟨some ⟨g, off, none⟩, 0, fun W => ?_, .inl ⟨rfl, rfl, rfl⟩⟩
    go_simp
  · have e' : ¬ (n : Nat) = 3 := e
    refine ⟨some ⟨g, off + 3, none⟩, n - 3, fun W => ?_, .inr ⟨by omega, rfl, rfl⟩⟩
    go_simp
theorem slice3_any {w : World} {g off n : Nat} {xs : List Tx} (hs : Sl TE w (some ⟨g, off, none⟩) n xs) (hn : n = xs.length) (h : 3 ≤ n) : ∃ so sn, (∀ W, (Instr.slice 31 (.slice (some ⟨g, off, none⟩) n n) (some (.int .i64 3)) none none).run Tryz.prog W = .ok (.slice so sn sn) W) ∧ sn = (xs.drop 3).length ∧ Sl TE w so sn (xs.drop 3) := by
  obtain ⟨so, sn, h1, h2⟩ := slice3 g off n h
  have hl : (xs.drop 3).length = n - 3 := by rw [List.length_drop, ← hn]
  rcases h2 with ⟨rfl, rfl, rfl⟩ | ⟨h3, rfl, rfl⟩
  · have e : xs.drop 3 = [] := List.length_eq_zero_iff.1 (by omega)
    exact ⟨_, _, h1, by rw [hl], by rw [e]; exact ⟨.inl rfl, Nat.le_refl _, fun h => by cases h⟩⟩
  · exact ⟨_, _, h1, hl.symm, hs.row.drop okT 3 (fun _ b o e => by cases e; rfl), by rw [hl]; exact Nat.le_refl _, fun h => by cases h⟩
theorem zero_ev (w : World) : ∀ W, W = w.alloc (.cells c0E 36) → W.heap[w.heap.size]? = some (.cells c0E 36 (0, 0)) ∧ Keeps no w W := by
  rintro W rfl
  exact ⟨blk_new w _, (Keeps.refl _ _).alloc _⟩
/-- the result's cell alone -/
structure E1 (w W : World) (B : Nat) : Prop where
  b : W.heap[B]? = some (.cells c0E 36 (0, 0))
  kp : Keeps no w W
  ge : w.heap.size ≤ B
theorem E1.keepsN {w W W' : World} {B : Nat} (h : E1 w W B) (k : Keeps no W W') : E1 w W' B := ⟨k.at h.b id, h.kp.trans k, h.ge⟩
theorem E1.fin {w W : World} {B : Nat} (h : E1 w W B) (r : RE) : (set10 W B r).heap[B]? = some (.cells (cellsE r).toArray 36 (0, 0)) ∧ Keeps no w (set10 W B r) ∧ Keeps (fun k => k = B) W (set10 W B r) := by
  refine ⟨?_, ?_, ?_⟩
  · have h9 := blk_set (blk_set (blk_set (blk_set (blk_set (blk_set (blk_set (blk_set (blk_set (blk_set h.b 0 (.int .i64 r.kind)) 1 (.int .i64 r.client)) 2 (.int .i64 r.txn)) 3 (.int .u64 (r.id : Nat))) 4 (.slice r.po r.pn r.pc)) 5 (.slice r.ko r.kn r.kc)) 6 (.int .i64 r.atxn)) 7 (.int .i64 r.ares)) 8 (.int .u64 (r.aid : Nat))) 9 (.slice r.vo r.vn r.vc)
    simp only [List.setIfInBounds_toArray, List.set_cons_zero, List.set_cons_succ] at h9
    exact h9
  · have s : ∀ {X : World} (k : Keeps no w X) (j : Nat) (v : Value), Keeps no w (X.setCell ⟨B, j, none⟩ v) := fun k j v => k.setCell (p := ⟨B, j, none⟩) (.inr h.ge) v
    exact s (s (s (s (s (s (s (s (s (s h.kp 0 _) 1 _) 2 _) 3 _) 4 _) 5 _) 6 _) 7 _) 8 _) 9 _
  · have s : ∀ {X : World} (k : Keeps (fun k => k = B) W X) (j : Nat) (v : Value), Keeps (fun k => k = B) W (X.setCell ⟨B, j, none⟩ v) := fun k j v => k.trans (keeps_one _ B j v)
    exact s (s (s (s (s (s (s (s (s (s (Keeps.refl _ _) 0 _) 1 _) 2 _) 3 _) 4 _) 5 _) 6 _) 7 _) 8 _) 9 _
abbrev AGC (c t : Nat) : Array Value := #[.int .i64 0, .int .i64 (c : Nat), .int .i64 (t : Nat), .int .u64 0, .slice none 0 0, .slice none 0 0, .int .i64 0, .int .i64 0, .int .u64 0, .slice none 0 0]
abbrev rz : RE := ⟨0, 0, 0, 0, none, 0, 0, none, 0, 0, 0, 0, 0, none, 0, 0⟩
set_option maxRecDepth 10000 in
set_option maxHeartbeats 8000000 in
theorem readEvent_any (w : World) (hv : Vs w) (s : ByteArray) (hs : s.size ≤ 4294967000) :
    Calls Tryz.prog 27 #[.string s] w (EbTo w (eventR s.data.toList)) := by
  obtain ⟨B, hB⟩ : ∃ B, B = w.heap.size := ⟨_, rfl⟩
  have HA : Hid (∀ W, W = w.alloc (.cells c0E 36) → E1 w W B) := by
    rintro W rfl
    exact ⟨by rw [hB]; exact blk_new w _, (Keeps.refl _ _).alloc _, Nat.le_of_eq hB.symm⟩
  have HS : Hid (∀ W, Calls Tryz.prog 44 #[.string s, .string ⟨#[32]⟩] W fun e w' => ∃ o n xs, e = .returned (.slice o n n) ∧ n = xs.length ∧ Own TE w' o n xs ∧ New W o ∧ Keeps no W w' ∧ xs.map (fun x => x.data.toList) = splitL 32 s.data.toList) := fun W => split_any W s 32 (by omega)
  have HZ : Hid (s.data.toList.length ≤ 4294967000) := by show _ ≤ _; rw [data_len]; exact hs
  have HV : Hid (Vs w) := hv
  clear hs hv
  unfold eventR
  go_enter Tryz.func27, Tryz.ntmps27
  go_upto_region 1 with fail
  have h1 := HA.out _ rfl
  rw [← hB]
  clear hB HA
  generalize w.alloc (.cells c0E 36) = w1 at h1 ⊢
  have H1 : Hid (E1 w w1 B) := h1
  clear h1
  go_wp2_with fail
  refine (HS.out _).mono ?_
  rintro e w2 ⟨o, n, xs, rfl, hn, ho, -, hk2, hx⟩
  have hbz := bts_size (xs := xs) hx
  have HX : Hid (n = xs.length ∧ Sl TE w2 o n xs ∧ (∀ x ∈ xs, x.size ≤ 4294967000) ∧ bts xs = splitL 32 s.data.toList ∧ n ≤ 4294967001) := ⟨hn, ho.sl, fun x hx => Nat.le_trans (hbz.1 x hx) HZ.out, hx, by have := hbz.2.1; have := HZ.out; omega⟩
  have H2 : Hid (E1 w w2 B) := H1.out.keepsN hk2
  have hnb : (n : Int) ≤ 4294967001 := by have := HX.out.2.2.2.2; omega
  obtain ⟨P, hP⟩ : ∃ P, P = splitL 32 s.data.toList := ⟨_, rfl⟩
  rw [← hP] at HX
  have HPE : Hid (eventP (splitL 32 s.data.toList) = eventP P) := by show _ = _; rw [hP]
  clear hn ho hk2 hx hbz H1 hP HS HZ
  by_cases h2 : n < 3
  · have h2' : (n : Int) < 3 := by omega
    have HE : Hid (eventP P = none) := by
      show _ = _
      unfold eventP
      rw [if_pos (by rw [← HX.out.2.2.2.1, bts_len, ← HX.out.1]; exact h2)]
    generalize hWW : w2 = WW at H2 ⊢
    have y0 := cell_of_blk H2.out.b 0
    have y1 := cell_of_blk H2.out.b 1
    have y2 := cell_of_blk H2.out.b 2
    have y3 := cell_of_blk H2.out.b 3
    have y4 := cell_of_blk H2.out.b 4
    have y5 := cell_of_blk H2.out.b 5
    have y6 := cell_of_blk H2.out.b 6
    have y7 := cell_of_blk H2.out.b 7
    have y8 := cell_of_blk H2.out.b 8
    have y9 := cell_of_blk H2.out.b 9
    simp only [List.getElem?_toArray, List.getElem?_cons_succ, List.getElem?_cons_zero] at y0 y1 y2 y3 y4 y5 y6 y7 y8 y9
    have fy0 := frozen_of_blk H2.out.b 0
    have fy1 := frozen_of_blk H2.out.b 1
    have fy2 := frozen_of_blk H2.out.b 2
    have fy3 := frozen_of_blk H2.out.b 3
    have fy4 := frozen_of_blk H2.out.b 4
    have fy5 := frozen_of_blk H2.out.b 5
    have fy6 := frozen_of_blk H2.out.b 6
    have fy7 := frozen_of_blk H2.out.b 7
    have fy8 := frozen_of_blk H2.out.b 8
    have fy9 := frozen_of_blk H2.out.b 9
    have HF : Hid (∀ W', W' = set10 WW B rz → W'.heap[B]? = some (.cells (cellsE rz).toArray 36 (0, 0)) ∧ Keeps no w W' ∧ Keeps (fun k => k = B) WW W') := by
      rintro W' rfl
      exact H2.out.fin rz
    unfold set10 at HF
    simp only [rz] at HF
    go_wp2_with fail
    refine bodyPost_ret (results_row2 rfl _ _ B _ rfl (run_loadVar_row _ _ _ _ _ _ _ (HF.out _ rfl).1 Tryz.underlying36 rfl (ev_size _ _ _ _ _ _ _ _ _ _))) rfl ?_
    exact ⟨rz, by rw [HPE.out, HE.out]; rfl, (HF.out _ rfl).2.1, fun y e => by rw [HPE.out, HE.out] at e; cases e⟩
  · have h2' : ¬ (n : Int) < 3 := by omega
    have hx2 : 2 < xs.length := by have := HX.out.1; omega
    obtain ⟨g, off, rfl, d0⟩ := tx_at HX.out.2.1 (j := 0) (by omega)
    obtain ⟨g', off', e2, d1⟩ := tx_at HX.out.2.1 (j := 1) (by omega)
    cases e2
    obtain ⟨g', off', e2, d2⟩ := tx_at HX.out.2.1 (j := 2) hx2
    cases e2
    simp only [Nat.add_zero] at d0
    have hP0 : P.getD 0 [] = (xs.getD 0 e0).data.toList := by rw [← HX.out.2.2.2.1]; exact bts_getD _ _ (by omega)
    have hP1 : P.getD 1 [] = (xs.getD 1 e0).data.toList := by rw [← HX.out.2.2.2.1]; exact bts_getD _ _ (by omega)
    have hP2 : P.getD 2 [] = (xs.getD 2 e0).data.toList := by rw [← HX.out.2.2.2.1]; exact bts_getD _ _ hx2
    have hPd : P.drop 3 = bts (xs.drop 3) := by rw [← HX.out.2.2.2.1]; unfold bts; exact List.map_drop.symm
    have hz0 := HX.out.2.2.1 _ (getD_mem_lt e0 (show 0 < xs.length by omega))
    have hz1 := HX.out.2.2.1 _ (getD_mem_lt e0 (show 1 < xs.length by omega))
    have hPl : P.length = n := by rw [← HX.out.2.2.2.1, bts_len, HX.out.1]
    generalize xs.getD 0 e0 = x0 at d0 hP0 hz0
    generalize xs.getD 1 e0 = x1 at d1 hP1 hz1
    generalize xs.getD 2 e0 = x2 at d2 hP2
    have HT0 := readNumber_any w2 (HV.out.keepsN H2.out.kp) x0 (by omega)
    have HT1 : Hid (∀ W, Keeps no w W → Calls Tryz.prog 45 #[.string x1] W fun e w' => ∃ v : Nat, e = .returned (.tuple #[.int .u64 (v : Nat), .bool (numR x1.data.toList).isSome]) ∧ (∀ u, numR x1.data.toList = some u → v = u) ∧ Keeps no W w') := fun W hW => readNumber_any W (HV.out.keepsN hW) x1 (by omega)
    have HPV : Hid (eventP P = match numR x0.data.toList, numR x1.data.toList with
      | some c, some t => if 16 ≤ c then none else if t < 1 then none else if 9223372036854775807 < t then none
        else if x2.data.toList = [119, 114, 105, 116, 101] then writeE c t (bts (xs.drop 3))
        else if x2.data.toList = [114, 101, 97, 100] then readE c t (bts (xs.drop 3))
        else ansE c t x2.data.toList (bts (xs.drop 3))
      | _, _ => none) := by
      show _ = _
      unfold eventP
      rw [if_neg (by rw [hPl]; exact h2), hP0, hP1, hP2, hPd]
    clear hP0 hP1 hP2 hPd hPl hz0 hz1 hx2
    go_wp2_with fail
    refine HT0.mono ?_
    rintro e w3 ⟨c, rfl, hc, hk3⟩
    have H3 : Hid (E1 w w3 B) := H2.out.keepsN hk3
    have HX3 : Hid (Sl TE w3 (some ⟨g, off, none⟩) n xs) := HX.out.2.1.keepsN hk3
    have d1' := hk3.cellN d1
    have d2' := hk3.cellN d2
    clear hk3 d0 d1 d2 HT0 H2
    cases hr0 : numR x0.data.toList with
    | none =>
      have HE : Hid (eventP P = none) := by show _ = _; rw [HPV.out, hr0]
      clear hc d1' d2'
      generalize hWW : w3 = WW at H3 ⊢
      have y0 := cell_of_blk H3.out.b 0
      have y1 := cell_of_blk H3.out.b 1
      have y2 := cell_of_blk H3.out.b 2
      have y3 := cell_of_blk H3.out.b 3
      have y4 := cell_of_blk H3.out.b 4
      have y5 := cell_of_blk H3.out.b 5
      have y6 := cell_of_blk H3.out.b 6
      have y7 := cell_of_blk H3.out.b 7
      have y8 := cell_of_blk H3.out.b 8
      have y9 := cell_of_blk H3.out.b 9
      simp only [List.getElem?_toArray, List.getElem?_cons_succ, List.getElem?_cons_zero] at y0 y1 y2 y3 y4 y5 y6 y7 y8 y9
      have fy0 := frozen_of_blk H3.out.b 0
      have fy1 := frozen_of_blk H3.out.b 1
      have fy2 := frozen_of_blk H3.out.b 2
      have fy3 := frozen_of_blk H3.out.b 3
      have fy4 := frozen_of_blk H3.out.b 4
      have fy5 := frozen_of_blk H3.out.b 5
      have fy6 := frozen_of_blk H3.out.b 6
      have fy7 := frozen_of_blk H3.out.b 7
      have fy8 := frozen_of_blk H3.out.b 8
      have fy9 := frozen_of_blk H3.out.b 9
      have HF : Hid (∀ W', W' = set10 WW B rz → W'.heap[B]? = some (.cells (cellsE rz).toArray 36 (0, 0)) ∧ Keeps no w W' ∧ Keeps (fun k => k = B) WW W') := by
        rintro W' rfl
        exact H3.out.fin rz
      unfold set10 at HF
      simp only [rz] at HF
      go_wp2_with fail
      refine bodyPost_ret (results_row2 rfl _ _ B _ rfl (run_loadVar_row _ _ _ _ _ _ _ (HF.out _ rfl).1 Tryz.underlying36 rfl (ev_size _ _ _ _ _ _ _ _ _ _))) rfl ?_
      exact ⟨rz, by rw [HPE.out, HE.out]; rfl, (HF.out _ rfl).2.1, fun y e => by rw [HPE.out, HE.out] at e; cases e⟩
    | some c' =>
      obtain rfl : c = c' := hc c' hr0
      clear hc
      by_cases h16 : 16 ≤ c
      · have h16' : (16 : Int) ≤ (c : Int) := by omega
        have HE : Hid (eventP P = none) := by
          show _ = _
          rw [HPV.out, hr0]
          cases numR x1.data.toList with
          | none => rfl
          | some t => show (if 16 ≤ c then _ else _) = _; rw [if_pos h16]
        clear d1' d2'
        generalize hWW : w3 = WW at H3 ⊢
        have y0 := cell_of_blk H3.out.b 0
        have y1 := cell_of_blk H3.out.b 1
        have y2 := cell_of_blk H3.out.b 2
        have y3 := cell_of_blk H3.out.b 3
        have y4 := cell_of_blk H3.out.b 4
        have y5 := cell_of_blk H3.out.b 5
        have y6 := cell_of_blk H3.out.b 6
        have y7 := cell_of_blk H3.out.b 7
        have y8 := cell_of_blk H3.out.b 8
        have y9 := cell_of_blk H3.out.b 9
        simp only [List.getElem?_toArray, List.getElem?_cons_succ, List.getElem?_cons_zero] at y0 y1 y2 y3 y4 y5 y6 y7 y8 y9
        have fy0 := frozen_of_blk H3.out.b 0
        have fy1 := frozen_of_blk H3.out.b 1
        have fy2 := frozen_of_blk H3.out.b 2
        have fy3 := frozen_of_blk H3.out.b 3
        have fy4 := frozen_of_blk H3.out.b 4
        have fy5 := frozen_of_blk H3.out.b 5
        have fy6 := frozen_of_blk H3.out.b 6
        have fy7 := frozen_of_blk H3.out.b 7
        have fy8 := frozen_of_blk H3.out.b 8
        have fy9 := frozen_of_blk H3.out.b 9
        have HF : Hid (∀ W', W' = set10 WW B rz → W'.heap[B]? = some (.cells (cellsE rz).toArray 36 (0, 0)) ∧ Keeps no w W' ∧ Keeps (fun k => k = B) WW W') := by
          rintro W' rfl
          exact H3.out.fin rz
        unfold set10 at HF
        simp only [rz] at HF
        go_wp2_with fail
        refine bodyPost_ret (results_row2 rfl _ _ B _ rfl (run_loadVar_row _ _ _ _ _ _ _ (HF.out _ rfl).1 Tryz.underlying36 rfl (ev_size _ _ _ _ _ _ _ _ _ _))) rfl ?_
        exact ⟨rz, by rw [HPE.out, HE.out]; rfl, (HF.out _ rfl).2.1, fun y e => by rw [HPE.out, HE.out] at e; cases e⟩
      · have h16' : ¬ (16 : Int) ≤ (c : Int) := by omega
        go_wp2_with fail
        refine (HT1.out _ H3.out.kp).mono ?_
        rintro e w4 ⟨t, rfl, ht, hk4⟩
        have H4 : Hid (E1 w w4 B) := H3.out.keepsN hk4
        have HX4 : Hid (Sl TE w4 (some ⟨g, off, none⟩) n xs) := HX3.out.keepsN hk4
        have d2 := hk4.cellN d2'
        clear hk4 d1' d2' H3 HX3 HT1
        cases hr1 : numR x1.data.toList with
        | none =>
          have HE : Hid (eventP P = none) := by show _ = _; rw [HPV.out, hr0, hr1]
          clear ht d2
          generalize hWW : w4 = WW at H4 ⊢
          have y0 := cell_of_blk H4.out.b 0
          have y1 := cell_of_blk H4.out.b 1
          have y2 := cell_of_blk H4.out.b 2
          have y3 := cell_of_blk H4.out.b 3
          have y4 := cell_of_blk H4.out.b 4
          have y5 := cell_of_blk H4.out.b 5
          have y6 := cell_of_blk H4.out.b 6
          have y7 := cell_of_blk H4.out.b 7
          have y8 := cell_of_blk H4.out.b 8
          have y9 := cell_of_blk H4.out.b 9
          simp only [List.getElem?_toArray, List.getElem?_cons_succ, List.getElem?_cons_zero] at y0 y1 y2 y3 y4 y5 y6 y7 y8 y9
          have fy0 := frozen_of_blk H4.out.b 0
          have fy1 := frozen_of_blk H4.out.b 1
          have fy2 := frozen_of_blk H4.out.b 2
          have fy3 := frozen_of_blk H4.out.b 3
          have fy4 := frozen_of_blk H4.out.b 4
          have fy5 := frozen_of_blk H4.out.b 5
          have fy6 := frozen_of_blk H4.out.b 6
          have fy7 := frozen_of_blk H4.out.b 7
          have fy8 := frozen_of_blk H4.out.b 8
          have fy9 := frozen_of_blk H4.out.b 9
          have HF : Hid (∀ W', W' = set10 WW B rz → W'.heap[B]? = some (.cells (cellsE rz).toArray 36 (0, 0)) ∧ Keeps no w W' ∧ Keeps (fun k => k = B) WW W') := by
            rintro W' rfl
            exact H4.out.fin rz
          unfold set10 at HF
          simp only [rz] at HF
          go_wp2_with fail
          refine bodyPost_ret (results_row2 rfl _ _ B _ rfl (run_loadVar_row _ _ _ _ _ _ _ (HF.out _ rfl).1 Tryz.underlying36 rfl (ev_size _ _ _ _ _ _ _ _ _ _))) rfl ?_
          exact ⟨rz, by rw [HPE.out, HE.out]; rfl, (HF.out _ rfl).2.1, fun y e => by rw [HPE.out, HE.out] at e; cases e⟩
        | some t' =>
          obtain rfl : t = t' := ht t' hr1
          clear ht
          by_cases ht1 : t < 1
          · have ht1' : (t : Int) < 1 := by omega
            have HE : Hid (eventP P = none) := by
              show _ = _
              rw [HPV.out, hr0, hr1]
              show (if 16 ≤ c then _ else _) = _
              rw [if_neg h16, if_pos ht1]
            clear d2
            generalize hWW : w4 = WW at H4 ⊢
            have y0 := cell_of_blk H4.out.b 0
            have y1 := cell_of_blk H4.out.b 1
            have y2 := cell_of_blk H4.out.b 2
            have y3 := cell_of_blk H4.out.b 3
            have y4 := cell_of_blk H4.out.b 4
            have y5 := cell_of_blk H4.out.b 5
            have y6 := cell_of_blk H4.out.b 6
            have y7 := cell_of_blk H4.out.b 7
            have y8 := cell_of_blk H4.out.b 8
            have y9 := cell_of_blk H4.out.b 9
            simp only [List.getElem?_toArray, List.getElem?_cons_succ, List.getElem?_cons_zero] at y0 y1 y2 y3 y4 y5 y6 y7 y8 y9
            have fy0 := frozen_of_blk H4.out.b 0
            have fy1 := frozen_of_blk H4.out.b 1
            have fy2 := frozen_of_blk H4.out.b 2
            have fy3 := frozen_of_blk H4.out.b 3
            have fy4 := frozen_of_blk H4.out.b 4
            have fy5 := frozen_of_blk H4.out.b 5
            have fy6 := frozen_of_blk H4.out.b 6
            have fy7 := frozen_of_blk H4.out.b 7
            have fy8 := frozen_of_blk H4.out.b 8
            have fy9 := frozen_of_blk H4.out.b 9
            have HF : Hid (∀ W', W' = set10 WW B rz → W'.heap[B]? = some (.cells (cellsE rz).toArray 36 (0, 0)) ∧ Keeps no w W' ∧ Keeps (fun k => k = B) WW W') := by
              rintro W' rfl
              exact H4.out.fin rz
            unfold set10 at HF
            simp only [rz] at HF
            go_wp2_with fail
            refine bodyPost_ret (results_row2 rfl _ _ B _ rfl (run_loadVar_row _ _ _ _ _ _ _ (HF.out _ rfl).1 Tryz.underlying36 rfl (ev_size _ _ _ _ _ _ _ _ _ _))) rfl ?_
            exact ⟨rz, by rw [HPE.out, HE.out]; rfl, (HF.out _ rfl).2.1, fun y e => by rw [HPE.out, HE.out] at e; cases e⟩
          · have ht1' : ¬ (t : Int) < 1 := by omega
            by_cases htm : 9223372036854775807 < t
            · have htm' : (9223372036854775807 : Int) < (t : Int) := by omega
              have HE : Hid (eventP P = none) := by
                show _ = _
                rw [HPV.out, hr0, hr1]
                show (if 16 ≤ c then _ else _) = _
                rw [if_neg h16, if_neg ht1, if_pos htm]
              clear d2
              generalize hWW : w4 = WW at H4 ⊢
              have y0 := cell_of_blk H4.out.b 0
              have y1 := cell_of_blk H4.out.b 1
              have y2 := cell_of_blk H4.out.b 2
              have y3 := cell_of_blk H4.out.b 3
              have y4 := cell_of_blk H4.out.b 4
              have y5 := cell_of_blk H4.out.b 5
              have y6 := cell_of_blk H4.out.b 6
              have y7 := cell_of_blk H4.out.b 7
              have y8 := cell_of_blk H4.out.b 8
              have y9 := cell_of_blk H4.out.b 9
              simp only [List.getElem?_toArray, List.getElem?_cons_succ, List.getElem?_cons_zero] at y0 y1 y2 y3 y4 y5 y6 y7 y8 y9
              have fy0 := frozen_of_blk H4.out.b 0
              have fy1 := frozen_of_blk H4.out.b 1
              have fy2 := frozen_of_blk H4.out.b 2
              have fy3 := frozen_of_blk H4.out.b 3
              have fy4 := frozen_of_blk H4.out.b 4
              have fy5 := frozen_of_blk H4.out.b 5
              have fy6 := frozen_of_blk H4.out.b 6
              have fy7 := frozen_of_blk H4.out.b 7
              have fy8 := frozen_of_blk H4.out.b 8
              have fy9 := frozen_of_blk H4.out.b 9
              have HF : Hid (∀ W', W' = set10 WW B rz → W'.heap[B]? = some (.cells (cellsE rz).toArray 36 (0, 0)) ∧ Keeps no w W' ∧ Keeps (fun k => k = B) WW W') := by
                rintro W' rfl
                exact H4.out.fin rz
              unfold set10 at HF
              simp only [rz] at HF
              go_wp2_with fail
              refine bodyPost_ret (results_row2 rfl _ _ B _ rfl (run_loadVar_row _ _ _ _ _ _ _ (HF.out _ rfl).1 Tryz.underlying36 rfl (ev_size _ _ _ _ _ _ _ _ _ _))) rfl ?_
              exact ⟨rz, by rw [HPE.out, HE.out]; rfl, (HF.out _ rfl).2.1, fun y e => by rw [HPE.out, HE.out] at e; cases e⟩
            · have htm' : ¬ (9223372036854775807 : Int) < (t : Int) := by omega
              have HPV2 : Hid (eventP P = if x2.data.toList = [119, 114, 105, 116, 101] then writeE c t (bts (xs.drop 3))
                  else if x2.data.toList = [114, 101, 97, 100] then readE c t (bts (xs.drop 3))
                  else ansE c t x2.data.toList (bts (xs.drop 3))) := by
                show _ = _
                rw [HPV.out, hr0, hr1]
                show (if 16 ≤ c then _ else _) = _
                rw [if_neg h16, if_neg ht1, if_neg htm]
              clear HPV hr0 hr1
              have HB : Hid ((c : Int) < 9223372036854775808 ∧ (t : Int) < 9223372036854775808) := ⟨by omega, by omega⟩
              have wc : IntKind.i64.wrap (c : Int) = (c : Int) := by rw [IntKind.wrap_i64]; omega
              have wt : IntKind.i64.wrap (t : Int) = (t : Int) := by rw [IntKind.wrap_i64]; omega
              go_upto_region 11 with fail
              have hT : Hid (∀ W, W = w4.alloc (.cells (AGC c t) 36) → E1 w W B ∧ Sl TE W (some ⟨g, off, none⟩) n xs ∧ W.heap[w4.heap.size]? = some (.cells (AGC c t) 36 (0, 0)) ∧ W.cell? ⟨g, off + 2, none⟩ = some (.string x2)) := by
                rintro W rfl
                have k : Keeps no w4 (w4.alloc (.cells (AGC c t) 36)) := (Keeps.refl _ _).alloc _
                exact ⟨H4.out.keepsN k, HX4.out.keepsN k, blk_new _ _, k.cellN d2⟩
              have hTB : Hid (B ≠ w4.heap.size) := by show _ ≠ _; have := lt_of_block H4.out.b; omega
              have h5 := hT.out _ rfl
              clear hT d2 H4 HX4
              generalize w4.alloc (.cells (AGC c t) 36) = w5 at h5 ⊢
              generalize w4.heap.size = T at h5 hTB ⊢
              have H5 : Hid (E1 w w5 B ∧ w5.heap[T]? = some (.cells (AGC c t) 36 (0, 0))) := ⟨h5.1, h5.2.2.1⟩
              obtain ⟨so, sn, hsl, hsn, hso⟩ := slice3_any h5.2.1 HX.out.1 (by omega)
              have HSO : Hid (sn = (xs.drop 3).length ∧ Sl TE w5 so sn (xs.drop 3) ∧ (∀ x ∈ xs.drop 3, x.size ≤ 4294967000) ∧ (xs.drop 3).length ≤ 4294967001) := ⟨hsn, hso, fun x hx => HX.out.2.2.1 x (List.mem_of_mem_drop hx), by rw [List.length_drop]; have := HX.out.1; have := HX.out.2.2.2.2; omega⟩
              have d2 := h5.2.2.2
              clear h5 hsn hso HX
              generalize xs.drop 3 = zs at HSO HPV2
              have HV5 : Hid (Vs w5) := HV.out.keepsN H5.out.1.kp
              have z0 := cell_of_blk H5.out.2 0
              have z1 := cell_of_blk H5.out.2 1
              have z2 := cell_of_blk H5.out.2 2
              have z3 := cell_of_blk H5.out.2 3
              have z4 := cell_of_blk H5.out.2 4
              have z5 := cell_of_blk H5.out.2 5
              have z6 := cell_of_blk H5.out.2 6
              have z7 := cell_of_blk H5.out.2 7
              have z8 := cell_of_blk H5.out.2 8
              have z9 := cell_of_blk H5.out.2 9
              simp only [List.getElem?_toArray, List.getElem?_cons_succ, List.getElem?_cons_zero] at z0 z1 z2 z3 z4 z5 z6 z7 z8 z9
              have k5 : Keeps no w5 w5.drew := (Keeps.refl _ _).drew
              have HK5 : Hid (Keeps no w5 w5.drew) := k5
              by_cases hw : x2 = ⟨#[119, 114, 105, 116, 101]⟩
              · skip
                have hwb : (ByteArray.toList x2 == [119, 114, 105, 116, 101]) = true := by rw [hw, Lib.toList_data]; rfl
                have HE : Hid (eventP P = writeE c t (bts zs)) := by show _ = _; rw [HPV2.out, if_pos (by rw [hw])]
                clear HPV2
                have HC := readWrite_any w5.drew (HV5.out.keepsN k5) c t so sn zs HSO.out.1 (HSO.out.2.1.keepsN k5) HSO.out.2.2.1 HSO.out.2.2.2
                clear k5
                go_upto_region 13 with fail
                refine wp_region_held_drew (S := fun X => True) (by kernel_rfl) ?_ (fun hHeld => ?_)
                · exact trivial
                refine wpAnyH_take (i := 1) (v := ?_) (by simp only [List.getElem?_toArray, List.getElem?_cons_succ, List.getElem?_cons_zero]; rfl) (by kernel_rfl) (by kernel_rfl) (by kernel_rfl) (by exact fun _ _ _ h => h) (Or.inl ⟨by rfl, ?_⟩) (by assumption) ?_
                rotate_left
                · (intro _ hSw; (try dsimp only at hSw); go_simp; (try with_reducible rfl))
                try simp only [Act.put, List.setIfInBounds_toArray, List.set_cons_zero, List.set_cons_succ]
                refine wpAnyH_take (i := 2) (v := ?_) (by simp only [List.getElem?_toArray, List.getElem?_cons_succ, List.getElem?_cons_zero]; rfl) (by kernel_rfl) (by kernel_rfl) (by kernel_rfl) (by exact fun _ _ _ h => h) (Or.inl ⟨by rfl, ?_⟩) (by assumption) ?_
                rotate_left
                · (intro _ hSw; (try dsimp only at hSw); go_simp; (try with_reducible rfl))
                try simp only [Act.put, List.setIfInBounds_toArray, List.set_cons_zero, List.set_cons_succ]
                refine wpAnyH_ready (rs := [0]) (by kernel_rfl) (by simp) ?_
                refine (AllReadyH.cons (by simp only [List.getElem?_toArray, List.getElem?_cons_succ, List.getElem?_cons_zero]; rfl) (fun Kq hKq => ?_) AllReadyH.nil)
                go_simp
                refine hKq.out _ _ ?_ (fun hHeldN => ?_)
                · exact trivial
                clear hKq Kq hHeld
                have hHeld := hHeldN
                clear hHeldN
                refine wpAnyH_ready (rs := [3]) (by kernel_rfl) (by simp) ?_
                refine (AllReadyH.cons (by simp only [List.getElem?_toArray, List.getElem?_cons_succ, List.getElem?_cons_zero]; rfl) (fun Kq hKq => ?_) AllReadyH.nil)
                go_simp
                refine Calls.mono HC ?_
                rintro e w6 ⟨r, he, hk6, hy⟩
                have he2 : e = .returned (.tuple #[.agg #[.int .i64 r.kind, .int .i64 r.client, .int .i64 r.txn, .int .u64 (r.id : Nat), .slice r.po r.pn r.pc, .slice r.ko r.kn r.kc, .int .i64 r.atxn, .int .i64 r.ares, .int .u64 (r.aid : Nat), .slice r.vo r.vn r.vc], .bool (writeE c t (bts zs)).isSome]) := he
                subst he2
                clear he
                have H6 : Hid (E1 w w6 B ∧ ∀ y, writeE c t (bts zs) = some y → EbOf w5.drew.heap.size w6 r y) := ⟨(H5.out.1.keepsN HK5.out).keepsN hk6, hy⟩
                clear hk6 hy z0 z1 z2 z3 z4 z5 z6 z7 z8 z9
                refine hKq.out _ _ ?_ (fun hHeldN => ?_)
                · exact trivial
                clear hKq Kq hHeld
                have hHeld := hHeldN
                clear hHeldN
                refine wpAnyH_take (i := 4) (v := ?_) (by simp only [List.getElem?_toArray, List.getElem?_cons_succ, List.getElem?_cons_zero]; rfl) (by kernel_rfl) (by kernel_rfl) (by kernel_rfl) (by exact fun _ _ _ h => h) (Or.inl ⟨by rfl, ?_⟩) (by assumption) ?_
                rotate_left
                · (intro _ hSw; (try dsimp only at hSw); go_simp; (try with_reducible rfl))
                try simp only [Act.put, List.setIfInBounds_toArray, List.set_cons_zero, List.set_cons_succ]
                refine wpAnyH_take (i := 5) (v := ?_) (by simp only [List.getElem?_toArray, List.getElem?_cons_succ, List.getElem?_cons_zero]; rfl) (by kernel_rfl) (by kernel_rfl) (by kernel_rfl) (by exact fun _ _ _ h => h) (Or.inl ⟨by rfl, ?_⟩) (by assumption) ?_
                rotate_left
                · (intro _ hSw; (try dsimp only at hSw); go_simp; (try with_reducible rfl))
                try simp only [Act.put, List.setIfInBounds_toArray, List.set_cons_zero, List.set_cons_succ]
                have y0 := cell_of_blk H6.out.1.b 0
                have y1 := cell_of_blk H6.out.1.b 1
                have y2 := cell_of_blk H6.out.1.b 2
                have y3 := cell_of_blk H6.out.1.b 3
                have y4 := cell_of_blk H6.out.1.b 4
                have y5 := cell_of_blk H6.out.1.b 5
                have y6 := cell_of_blk H6.out.1.b 6
                have y7 := cell_of_blk H6.out.1.b 7
                have y8 := cell_of_blk H6.out.1.b 8
                have y9 := cell_of_blk H6.out.1.b 9
                simp only [List.getElem?_toArray, List.getElem?_cons_succ, List.getElem?_cons_zero] at y0 y1 y2 y3 y4 y5 y6 y7 y8 y9
                have fy0 := frozen_of_blk H6.out.1.b 0
                have fy1 := frozen_of_blk H6.out.1.b 1
                have fy2 := frozen_of_blk H6.out.1.b 2
                have fy3 := frozen_of_blk H6.out.1.b 3
                have fy4 := frozen_of_blk H6.out.1.b 4
                have fy5 := frozen_of_blk H6.out.1.b 5
                have fy6 := frozen_of_blk H6.out.1.b 6
                have fy7 := frozen_of_blk H6.out.1.b 7
                have fy8 := frozen_of_blk H6.out.1.b 8
                have fy9 := frozen_of_blk H6.out.1.b 9
                refine wpAnyH_ready (rs := [6]) (by kernel_rfl) (by simp) ?_
                refine (AllReadyH.cons (by simp only [List.getElem?_toArray, List.getElem?_cons_succ, List.getElem?_cons_zero]; rfl) (fun Kq hKq => ?_) AllReadyH.nil)
                go_simp
                refine hKq.out _ _ ?_ (fun hHeldN => ?_)
                · exact trivial
                clear hKq Kq hHeld
                have hHeld := hHeldN
                clear hHeldN
                refine wpAnyH_take (i := 7) (v := ?_) (by simp only [List.getElem?_toArray, List.getElem?_cons_succ, List.getElem?_cons_zero]; rfl) (by kernel_rfl) (by kernel_rfl) (by kernel_rfl) (by exact fun _ _ _ h => h) (Or.inl ⟨by rfl, ?_⟩) (by assumption) ?_
                rotate_left
                · (intro _ hSw; (try dsimp only at hSw); go_simp; (try with_reducible rfl))
                try simp only [Act.put, List.setIfInBounds_toArray, List.set_cons_zero, List.set_cons_succ]
                refine wpAnyH_done (by kernel_rfl) ?_ _
                clear hHeld
                have HF : Hid (∀ W', W' = set10 w6 B r → W'.heap[B]? = some (.cells (cellsE r).toArray 36 (0, 0)) ∧ Keeps no w W' ∧ Keeps (fun k => k = B) w6 W') := by
                  rintro W' rfl
                  exact H6.out.1.fin r
                unfold set10 at HF
                go_wp2_with fail
                refine bodyPost_ret (results_row2 rfl _ _ B _ rfl (run_loadVar_row _ _ _ _ _ _ _ (HF.out _ rfl).1 Tryz.underlying36 rfl (ev_size _ _ _ _ _ _ _ _ _ _))) rfl ?_
                exact ⟨r, by rw [HPE.out, HE.out]; rfl, (HF.out _ rfl).2.1, fun y e => by
                  rw [HPE.out, HE.out] at e
                  have hlt : B < w5.drew.heap.size := lt_of_block H5.out.1.b
                  have hle : w.heap.size ≤ w5.drew.heap.size := H5.out.1.kp.size
                  exact ((H6.out.2 y e).keeps (HF.out _ rfl).2.2 (fun i hi => by rw [hi]; exact hlt)).le hle⟩
              · skip
                have hwl : x2.data.toList ≠ [119, 114, 105, 116, 101] := fun e => hw (by rcases x2 with ⟨⟨l⟩⟩; exact congrArg (fun l => (⟨⟨l⟩⟩ : ByteArray)) e)
                have hwb : (ByteArray.toList x2 == [119, 114, 105, 116, 101]) = false := by rw [beq_eq_false_iff_ne, Lib.toList_data]; exact hwl
                by_cases hr : x2 = ⟨#[114, 101, 97, 100]⟩
                · skip
                  have hrb : (ByteArray.toList x2 == [114, 101, 97, 100]) = true := by rw [hr, Lib.toList_data]; rfl
                  have HE : Hid (eventP P = readE c t (bts zs)) := by show _ = _; rw [HPV2.out, if_neg hwl, if_pos (by rw [hr])]
                  clear HPV2 hwl
                  have HC := readRead_any w5.drew c t HB.out.1 HB.out.2 so sn sn zs HSO.out.1 (HSO.out.2.1.keepsN k5) (fun x hx => by have := HSO.out.2.2.1 x hx; omega) (by have := HSO.out.2.2.2; omega)
                  clear k5
                  go_upto_region 15 with fail
                  refine wp_region_held_drew (S := fun X => True) (by kernel_rfl) ?_ (fun hHeld => ?_)
                  · exact trivial
                  refine wpAnyH_take (i := 1) (v := ?_) (by simp only [List.getElem?_toArray, List.getElem?_cons_succ, List.getElem?_cons_zero]; rfl) (by kernel_rfl) (by kernel_rfl) (by kernel_rfl) (by exact fun _ _ _ h => h) (Or.inl ⟨by rfl, ?_⟩) (by assumption) ?_
                  rotate_left
                  · (intro _ hSw; (try dsimp only at hSw); go_simp; (try with_reducible rfl))
                  try simp only [Act.put, List.setIfInBounds_toArray, List.set_cons_zero, List.set_cons_succ]
                  refine wpAnyH_take (i := 2) (v := ?_) (by simp only [List.getElem?_toArray, List.getElem?_cons_succ, List.getElem?_cons_zero]; rfl) (by kernel_rfl) (by kernel_rfl) (by kernel_rfl) (by exact fun _ _ _ h => h) (Or.inl ⟨by rfl, ?_⟩) (by assumption) ?_
                  rotate_left
                  · (intro _ hSw; (try dsimp only at hSw); go_simp; (try with_reducible rfl))
                  try simp only [Act.put, List.setIfInBounds_toArray, List.set_cons_zero, List.set_cons_succ]
                  refine wpAnyH_ready (rs := [0]) (by kernel_rfl) (by simp) ?_
                  refine (AllReadyH.cons (by simp only [List.getElem?_toArray, List.getElem?_cons_succ, List.getElem?_cons_zero]; rfl) (fun Kq hKq => ?_) AllReadyH.nil)
                  go_simp
                  refine hKq.out _ _ ?_ (fun hHeldN => ?_)
                  · exact trivial
                  clear hKq Kq hHeld
                  have hHeld := hHeldN
                  clear hHeldN
                  refine wpAnyH_ready (rs := [3]) (by kernel_rfl) (by simp) ?_
                  refine (AllReadyH.cons (by simp only [List.getElem?_toArray, List.getElem?_cons_succ, List.getElem?_cons_zero]; rfl) (fun Kq hKq => ?_) AllReadyH.nil)
                  go_simp
                  refine Calls.mono HC ?_
                  rintro e w6 ⟨r, he, hk6, hy⟩
                  have he2 : e = .returned (.tuple #[.agg #[.int .i64 r.kind, .int .i64 r.client, .int .i64 r.txn, .int .u64 (r.id : Nat), .slice r.po r.pn r.pc, .slice r.ko r.kn r.kc, .int .i64 r.atxn, .int .i64 r.ares, .int .u64 (r.aid : Nat), .slice r.vo r.vn r.vc], .bool (readE c t (bts zs)).isSome]) := he
                  subst he2
                  clear he
                  have H6 : Hid (E1 w w6 B ∧ ∀ y, readE c t (bts zs) = some y → EbOf w5.drew.heap.size w6 r y) := ⟨(H5.out.1.keepsN HK5.out).keepsN hk6, hy⟩
                  clear hk6 hy z0 z1 z2 z3 z4 z5 z6 z7 z8 z9
                  refine hKq.out _ _ ?_ (fun hHeldN => ?_)
                  · exact trivial
                  clear hKq Kq hHeld
                  have hHeld := hHeldN
                  clear hHeldN
                  refine wpAnyH_take (i := 4) (v := ?_) (by simp only [List.getElem?_toArray, List.getElem?_cons_succ, List.getElem?_cons_zero]; rfl) (by kernel_rfl) (by kernel_rfl) (by kernel_rfl) (by exact fun _ _ _ h => h) (Or.inl ⟨by rfl, ?_⟩) (by assumption) ?_
                  rotate_left
                  · (intro _ hSw; (try dsimp only at hSw); go_simp; (try with_reducible rfl))
                  try simp only [Act.put, List.setIfInBounds_toArray, List.set_cons_zero, List.set_cons_succ]
                  refine wpAnyH_take (i := 5) (v := ?_) (by simp only [List.getElem?_toArray, List.getElem?_cons_succ, List.getElem?_cons_zero]; rfl) (by kernel_rfl) (by kernel_rfl) (by kernel_rfl) (by exact fun _ _ _ h => h) (Or.inl ⟨by rfl, ?_⟩) (by assumption) ?_
                  rotate_left
                  · (intro _ hSw; (try dsimp only at hSw); go_simp; (try with_reducible rfl))
                  try simp only [Act.put, List.setIfInBounds_toArray, List.set_cons_zero, List.set_cons_succ]
                  have y0 := cell_of_blk H6.out.1.b 0
                  have y1 := cell_of_blk H6.out.1.b 1
                  have y2 := cell_of_blk H6.out.1.b 2
                  have y3 := cell_of_blk H6.out.1.b 3
                  have y4 := cell_of_blk H6.out.1.b 4
                  have y5 := cell_of_blk H6.out.1.b 5
                  have y6 := cell_of_blk H6.out.1.b 6
                  have y7 := cell_of_blk H6.out.1.b 7
                  have y8 := cell_of_blk H6.out.1.b 8
                  have y9 := cell_of_blk H6.out.1.b 9
                  simp only [List.getElem?_toArray, List.getElem?_cons_succ, List.getElem?_cons_zero] at y0 y1 y2 y3 y4 y5 y6 y7 y8 y9
                  have fy0 := frozen_of_blk H6.out.1.b 0
                  have fy1 := frozen_of_blk H6.out.1.b 1
                  have fy2 := frozen_of_blk H6.out.1.b 2
                  have fy3 := frozen_of_blk H6.out.1.b 3
                  have fy4 := frozen_of_blk H6.out.1.b 4
                  have fy5 := frozen_of_blk H6.out.1.b 5
                  have fy6 := frozen_of_blk H6.out.1.b 6
                  have fy7 := frozen_of_blk H6.out.1.b 7
                  have fy8 := frozen_of_blk H6.out.1.b 8
                  have fy9 := frozen_of_blk H6.out.1.b 9
                  refine wpAnyH_ready (rs := [6]) (by kernel_rfl) (by simp) ?_
                  refine (AllReadyH.cons (by simp only [List.getElem?_toArray, List.getElem?_cons_succ, List.getElem?_cons_zero]; rfl) (fun Kq hKq => ?_) AllReadyH.nil)
                  go_simp
                  refine hKq.out _ _ ?_ (fun hHeldN => ?_)
                  · exact trivial
                  clear hKq Kq hHeld
                  have hHeld := hHeldN
                  clear hHeldN
                  refine wpAnyH_take (i := 7) (v := ?_) (by simp only [List.getElem?_toArray, List.getElem?_cons_succ, List.getElem?_cons_zero]; rfl) (by kernel_rfl) (by kernel_rfl) (by kernel_rfl) (by exact fun _ _ _ h => h) (Or.inl ⟨by rfl, ?_⟩) (by assumption) ?_
                  rotate_left
                  · (intro _ hSw; (try dsimp only at hSw); go_simp; (try with_reducible rfl))
                  try simp only [Act.put, List.setIfInBounds_toArray, List.set_cons_zero, List.set_cons_succ]
                  refine wpAnyH_done (by kernel_rfl) ?_ _
                  clear hHeld
                  have HF : Hid (∀ W', W' = set10 w6 B r → W'.heap[B]? = some (.cells (cellsE r).toArray 36 (0, 0)) ∧ Keeps no w W' ∧ Keeps (fun k => k = B) w6 W') := by
                    rintro W' rfl
                    exact H6.out.1.fin r
                  unfold set10 at HF
                  go_wp2_with fail
                  refine bodyPost_ret (results_row2 rfl _ _ B _ rfl (run_loadVar_row _ _ _ _ _ _ _ (HF.out _ rfl).1 Tryz.underlying36 rfl (ev_size _ _ _ _ _ _ _ _ _ _))) rfl ?_
                  exact ⟨r, by rw [HPE.out, HE.out]; rfl, (HF.out _ rfl).2.1, fun y e => by
                    rw [HPE.out, HE.out] at e
                    have hlt : B < w5.drew.heap.size := lt_of_block H5.out.1.b
                    have hle : w.heap.size ≤ w5.drew.heap.size := H5.out.1.kp.size
                    exact ((H6.out.2 y e).keeps (HF.out _ rfl).2.2 (fun i hi => by rw [hi]; exact hlt)).le hle⟩
                · skip
                  have hrl : x2.data.toList ≠ [114, 101, 97, 100] := fun e => hr (by rcases x2 with ⟨⟨l⟩⟩; exact congrArg (fun l => (⟨⟨l⟩⟩ : ByteArray)) e)
                  have hrb : (ByteArray.toList x2 == [114, 101, 97, 100]) = false := by rw [beq_eq_false_iff_ne, Lib.toList_data]; exact hrl
                  have HE : Hid (eventP P = ansE c t x2.data.toList (bts zs)) := by show _ = _; rw [HPV2.out, if_neg hwl, if_neg hrl]
                  clear HPV2 hwl hrl
                  have HC := readAnswer_any w5.drew (HV5.out.keepsN k5) c t x2 so sn zs HSO.out.1 (HSO.out.2.1.keepsN k5) HSO.out.2.2.1 HSO.out.2.2.2
                  clear k5
                  go_upto_region 16 with fail
                  refine wp_region_held_drew (S := fun X => True) (by kernel_rfl) ?_ (fun hHeld => ?_)
                  · exact trivial
                  refine wpAnyH_take (i := 1) (v := ?_) (by simp only [List.getElem?_toArray, List.getElem?_cons_succ, List.getElem?_cons_zero]; rfl) (by kernel_rfl) (by kernel_rfl) (by kernel_rfl) (by exact fun _ _ _ h => h) (Or.inl ⟨by rfl, ?_⟩) (by assumption) ?_
                  rotate_left
                  · (intro _ hSw; (try dsimp only at hSw); go_simp; (try with_reducible rfl))
                  try simp only [Act.put, List.setIfInBounds_toArray, List.set_cons_zero, List.set_cons_succ]
                  refine wpAnyH_take (i := 2) (v := ?_) (by simp only [List.getElem?_toArray, List.getElem?_cons_succ, List.getElem?_cons_zero]; rfl) (by kernel_rfl) (by kernel_rfl) (by kernel_rfl) (by exact fun _ _ _ h => h) (Or.inl ⟨by rfl, ?_⟩) (by assumption) ?_
                  rotate_left
                  · (intro _ hSw; (try dsimp only at hSw); go_simp; rw [if_pos (by omega)]; (try with_reducible rfl))
                  try simp only [Act.put, List.setIfInBounds_toArray, List.set_cons_zero, List.set_cons_succ]
                  refine wpAnyH_take (i := 4) (v := ?_) (by simp only [List.getElem?_toArray, List.getElem?_cons_succ, List.getElem?_cons_zero]; rfl) (by kernel_rfl) (by kernel_rfl) (by kernel_rfl) (by exact fun _ _ _ h => h) (Or.inl ⟨by rfl, ?_⟩) (by assumption) ?_
                  rotate_left
                  · (intro _ hSw; (try dsimp only at hSw); go_simp; (try with_reducible rfl))
                  try simp only [Act.put, List.setIfInBounds_toArray, List.set_cons_zero, List.set_cons_succ]
                  refine wpAnyH_take (i := 5) (v := ?_) (by simp only [List.getElem?_toArray, List.getElem?_cons_succ, List.getElem?_cons_zero]; rfl) (by kernel_rfl) (by kernel_rfl) (by kernel_rfl) (by exact fun _ _ _ h => h) (Or.inl ⟨by rfl, ?_⟩) (by assumption) ?_
                  rotate_left
                  · (intro _ hSw; (try dsimp only at hSw); go_simp; (try with_reducible rfl))
                  try simp only [Act.put, List.setIfInBounds_toArray, List.set_cons_zero, List.set_cons_succ]
                  refine wpAnyH_ready (rs := [0, 3]) (by kernel_rfl) (by simp) ?_
                  refine (AllReadyH.cons (by simp only [List.getElem?_toArray, List.getElem?_cons_succ, List.getElem?_cons_zero]; rfl) (fun Kq hKq => ?_) (AllReadyH.cons (by simp only [List.getElem?_toArray, List.getElem?_cons_succ, List.getElem?_cons_zero]; rfl) (fun Kq hKq => ?_) AllReadyH.nil))
                  · go_simp
                    refine hKq.out _ _ ?_ (fun hHeldN => ?_)
                    · exact trivial
                    clear hKq Kq hHeld
                    have hHeld := hHeldN
                    clear hHeldN
                    refine wpAnyH_ready (rs := [3]) (by kernel_rfl) (by simp) ?_
                    refine (AllReadyH.cons (by simp only [List.getElem?_toArray, List.getElem?_cons_succ, List.getElem?_cons_zero]; rfl) (fun Kq hKq => ?_) AllReadyH.nil)
                    go_simp
                    refine hKq.out _ _ ?_ (fun hHeldN => ?_)
                    · exact trivial
                    clear hKq Kq hHeld
                    have hHeld := hHeldN
                    clear hHeldN
                    refine wpAnyH_ready (rs := [6]) (by kernel_rfl) (by simp) ?_
                    refine (AllReadyH.cons (by simp only [List.getElem?_toArray, List.getElem?_cons_succ, List.getElem?_cons_zero]; rfl) (fun Kq hKq => ?_) AllReadyH.nil)
                    go_simp
                    refine Calls.mono HC ?_
                    rintro e w6 ⟨r, he, hk6, hy⟩
                    have he2 : e = .returned (.tuple #[.agg #[.int .i64 r.kind, .int .i64 r.client, .int .i64 r.txn, .int .u64 (r.id : Nat), .slice r.po r.pn r.pc, .slice r.ko r.kn r.kc, .int .i64 r.atxn, .int .i64 r.ares, .int .u64 (r.aid : Nat), .slice r.vo r.vn r.vc], .bool (ansE c t x2.data.toList (bts zs)).isSome]) := he
                    subst he2
                    clear he
                    have H6 : Hid (E1 w w6 B ∧ ∀ y, ansE c t x2.data.toList (bts zs) = some y → EbOf w5.drew.heap.size w6 r y) := ⟨(H5.out.1.keepsN HK5.out).keepsN hk6, hy⟩
                    clear hk6 hy z0 z1 z2 z3 z4 z5 z6 z7 z8 z9
                    refine hKq.out _ _ ?_ (fun hHeldN => ?_)
                    · exact trivial
                    clear hKq Kq hHeld
                    have hHeld := hHeldN
                    clear hHeldN
                    refine wpAnyH_take (i := 7) (v := ?_) (by simp only [List.getElem?_toArray, List.getElem?_cons_succ, List.getElem?_cons_zero]; rfl) (by kernel_rfl) (by kernel_rfl) (by kernel_rfl) (by exact fun _ _ _ h => h) (Or.inl ⟨by rfl, ?_⟩) (by assumption) ?_
                    rotate_left
                    · (intro _ hSw; (try dsimp only at hSw); go_simp; (try with_reducible rfl))
                    try simp only [Act.put, List.setIfInBounds_toArray, List.set_cons_zero, List.set_cons_succ]
                    refine wpAnyH_take (i := 8) (v := ?_) (by simp only [List.getElem?_toArray, List.getElem?_cons_succ, List.getElem?_cons_zero]; rfl) (by kernel_rfl) (by kernel_rfl) (by kernel_rfl) (by exact fun _ _ _ h => h) (Or.inl ⟨by rfl, ?_⟩) (by assumption) ?_
                    rotate_left
                    · (intro _ hSw; (try dsimp only at hSw); go_simp; (try with_reducible rfl))
                    try simp only [Act.put, List.setIfInBounds_toArray, List.set_cons_zero, List.set_cons_succ]
                    have y0 := cell_of_blk H6.out.1.b 0
                    have y1 := cell_of_blk H6.out.1.b 1
                    have y2 := cell_of_blk H6.out.1.b 2
                    have y3 := cell_of_blk H6.out.1.b 3
                    have y4 := cell_of_blk H6.out.1.b 4
                    have y5 := cell_of_blk H6.out.1.b 5
                    have y6 := cell_of_blk H6.out.1.b 6
                    have y7 := cell_of_blk H6.out.1.b 7
                    have y8 := cell_of_blk H6.out.1.b 8
                    have y9 := cell_of_blk H6.out.1.b 9
                    simp only [List.getElem?_toArray, List.getElem?_cons_succ, List.getElem?_cons_zero] at y0 y1 y2 y3 y4 y5 y6 y7 y8 y9
                    have fy0 := frozen_of_blk H6.out.1.b 0
                    have fy1 := frozen_of_blk H6.out.1.b 1
                    have fy2 := frozen_of_blk H6.out.1.b 2
                    have fy3 := frozen_of_blk H6.out.1.b 3
                    have fy4 := frozen_of_blk H6.out.1.b 4
                    have fy5 := frozen_of_blk H6.out.1.b 5
                    have fy6 := frozen_of_blk H6.out.1.b 6
                    have fy7 := frozen_of_blk H6.out.1.b 7
                    have fy8 := frozen_of_blk H6.out.1.b 8
                    have fy9 := frozen_of_blk H6.out.1.b 9
                    refine wpAnyH_ready (rs := [9]) (by kernel_rfl) (by simp) ?_
                    refine (AllReadyH.cons (by simp only [List.getElem?_toArray, List.getElem?_cons_succ, List.getElem?_cons_zero]; rfl) (fun Kq hKq => ?_) AllReadyH.nil)
                    go_simp
                    refine hKq.out _ _ ?_ (fun hHeldN => ?_)
                    · exact trivial
                    clear hKq Kq hHeld
                    have hHeld := hHeldN
                    clear hHeldN
                    refine wpAnyH_take (i := 10) (v := ?_) (by simp only [List.getElem?_toArray, List.getElem?_cons_succ, List.getElem?_cons_zero]; rfl) (by kernel_rfl) (by kernel_rfl) (by kernel_rfl) (by exact fun _ _ _ h => h) (Or.inl ⟨by rfl, ?_⟩) (by assumption) ?_
                    rotate_left
                    · (intro _ hSw; (try dsimp only at hSw); go_simp; (try with_reducible rfl))
                    try simp only [Act.put, List.setIfInBounds_toArray, List.set_cons_zero, List.set_cons_succ]
                    refine wpAnyH_done (by kernel_rfl) ?_ _
                    clear hHeld
                    have HF : Hid (∀ W', W' = set10 w6 B r → W'.heap[B]? = some (.cells (cellsE r).toArray 36 (0, 0)) ∧ Keeps no w W' ∧ Keeps (fun k => k = B) w6 W') := by
                      rintro W' rfl
                      exact H6.out.1.fin r
                    unfold set10 at HF
                    go_wp2_with fail
                    refine bodyPost_ret (results_row2 rfl _ _ B _ rfl (run_loadVar_row _ _ _ _ _ _ _ (HF.out _ rfl).1 Tryz.underlying36 rfl (ev_size _ _ _ _ _ _ _ _ _ _))) rfl ?_
                    exact ⟨r, by rw [HPE.out, HE.out]; rfl, (HF.out _ rfl).2.1, fun y e => by
                      rw [HPE.out, HE.out] at e
                      have hlt : B < w5.drew.heap.size := lt_of_block H5.out.1.b
                      have hle : w.heap.size ≤ w5.drew.heap.size := H5.out.1.kp.size
                      exact ((H6.out.2 y e).keeps (HF.out _ rfl).2.2 (fun i hi => by rw [hi]; exact hlt)).le hle⟩
                  · go_simp
                    refine hKq.out _ _ ?_ (fun hHeldN => ?_)
                    · exact trivial
                    clear hKq Kq hHeld
                    have hHeld := hHeldN
                    clear hHeldN
                    refine wpAnyH_ready (rs := [0]) (by kernel_rfl) (by simp) ?_
                    refine (AllReadyH.cons (by simp only [List.getElem?_toArray, List.getElem?_cons_succ, List.getElem?_cons_zero]; rfl) (fun Kq hKq => ?_) AllReadyH.nil)
                    go_simp
                    refine hKq.out _ _ ?_ (fun hHeldN => ?_)
                    · exact trivial
                    clear hKq Kq hHeld
                    have hHeld := hHeldN
                    clear hHeldN
                    refine wpAnyH_ready (rs := [6]) (by kernel_rfl) (by simp) ?_
                    refine (AllReadyH.cons (by simp only [List.getElem?_toArray, List.getElem?_cons_succ, List.getElem?_cons_zero]; rfl) (fun Kq hKq => ?_) AllReadyH.nil)
                    go_simp
                    refine Calls.mono HC ?_
                    rintro e w6 ⟨r, he, hk6, hy⟩
                    have he2 : e = .returned (.tuple #[.agg #[.int .i64 r.kind, .int .i64 r.client, .int .i64 r.txn, .int .u64 (r.id : Nat), .slice r.po r.pn r.pc, .slice r.ko r.kn r.kc, .int .i64 r.atxn, .int .i64 r.ares, .int .u64 (r.aid : Nat), .slice r.vo r.vn r.vc], .bool (ansE c t x2.data.toList (bts zs)).isSome]) := he
                    subst he2
                    clear he
                    have H6 : Hid (E1 w w6 B ∧ ∀ y, ansE c t x2.data.toList (bts zs) = some y → EbOf w5.drew.heap.size w6 r y) := ⟨(H5.out.1.keepsN HK5.out).keepsN hk6, hy⟩
                    clear hk6 hy z0 z1 z2 z3 z4 z5 z6 z7 z8 z9
                    refine hKq.out _ _ ?_ (fun hHeldN => ?_)
                    · exact trivial
                    clear hKq Kq hHeld
                    have hHeld := hHeldN
                    clear hHeldN
                    refine wpAnyH_take (i := 7) (v := ?_) (by simp only [List.getElem?_toArray, List.getElem?_cons_succ, List.getElem?_cons_zero]; rfl) (by kernel_rfl) (by kernel_rfl) (by kernel_rfl) (by exact fun _ _ _ h => h) (Or.inl ⟨by rfl, ?_⟩) (by assumption) ?_
                    rotate_left
                    · (intro _ hSw; (try dsimp only at hSw); go_simp; (try with_reducible rfl))
                    try simp only [Act.put, List.setIfInBounds_toArray, List.set_cons_zero, List.set_cons_succ]
                    refine wpAnyH_take (i := 8) (v := ?_) (by simp only [List.getElem?_toArray, List.getElem?_cons_succ, List.getElem?_cons_zero]; rfl) (by kernel_rfl) (by kernel_rfl) (by kernel_rfl) (by exact fun _ _ _ h => h) (Or.inl ⟨by rfl, ?_⟩) (by assumption) ?_
                    rotate_left
                    · (intro _ hSw; (try dsimp only at hSw); go_simp; (try with_reducible rfl))
                    try simp only [Act.put, List.setIfInBounds_toArray, List.set_cons_zero, List.set_cons_succ]
                    have y0 := cell_of_blk H6.out.1.b 0
                    have y1 := cell_of_blk H6.out.1.b 1
                    have y2 := cell_of_blk H6.out.1.b 2
                    have y3 := cell_of_blk H6.out.1.b 3
                    have y4 := cell_of_blk H6.out.1.b 4
                    have y5 := cell_of_blk H6.out.1.b 5
                    have y6 := cell_of_blk H6.out.1.b 6
                    have y7 := cell_of_blk H6.out.1.b 7
                    have y8 := cell_of_blk H6.out.1.b 8
                    have y9 := cell_of_blk H6.out.1.b 9
                    simp only [List.getElem?_toArray, List.getElem?_cons_succ, List.getElem?_cons_zero] at y0 y1 y2 y3 y4 y5 y6 y7 y8 y9
                    have fy0 := frozen_of_blk H6.out.1.b 0
                    have fy1 := frozen_of_blk H6.out.1.b 1
                    have fy2 := frozen_of_blk H6.out.1.b 2
                    have fy3 := frozen_of_blk H6.out.1.b 3
                    have fy4 := frozen_of_blk H6.out.1.b 4
                    have fy5 := frozen_of_blk H6.out.1.b 5
                    have fy6 := frozen_of_blk H6.out.1.b 6
                    have fy7 := frozen_of_blk H6.out.1.b 7
                    have fy8 := frozen_of_blk H6.out.1.b 8
                    have fy9 := frozen_of_blk H6.out.1.b 9
                    refine wpAnyH_ready (rs := [9]) (by kernel_rfl) (by simp) ?_
                    refine (AllReadyH.cons (by simp only [List.getElem?_toArray, List.getElem?_cons_succ, List.getElem?_cons_zero]; rfl) (fun Kq hKq => ?_) AllReadyH.nil)
                    go_simp
                    refine hKq.out _ _ ?_ (fun hHeldN => ?_)
                    · exact trivial
                    clear hKq Kq hHeld
                    have hHeld := hHeldN
                    clear hHeldN
                    refine wpAnyH_take (i := 10) (v := ?_) (by simp only [List.getElem?_toArray, List.getElem?_cons_succ, List.getElem?_cons_zero]; rfl) (by kernel_rfl) (by kernel_rfl) (by kernel_rfl) (by exact fun _ _ _ h => h) (Or.inl ⟨by rfl, ?_⟩) (by assumption) ?_
                    rotate_left
                    · (intro _ hSw; (try dsimp only at hSw); go_simp; (try with_reducible rfl))
                    try simp only [Act.put, List.setIfInBounds_toArray, List.set_cons_zero, List.set_cons_succ]
                    refine wpAnyH_done (by kernel_rfl) ?_ _
                    clear hHeld
                    have HF : Hid (∀ W', W' = set10 w6 B r → W'.heap[B]? = some (.cells (cellsE r).toArray 36 (0, 0)) ∧ Keeps no w W' ∧ Keeps (fun k => k = B) w6 W') := by
                      rintro W' rfl
                      exact H6.out.1.fin r
                    unfold set10 at HF
                    go_wp2_with fail
                    refine bodyPost_ret (results_row2 rfl _ _ B _ rfl (run_loadVar_row _ _ _ _ _ _ _ (HF.out _ rfl).1 Tryz.underlying36 rfl (ev_size _ _ _ _ _ _ _ _ _ _))) rfl ?_
                    exact ⟨r, by rw [HPE.out, HE.out]; rfl, (HF.out _ rfl).2.1, fun y e => by
                      rw [HPE.out, HE.out] at e
                      have hlt : B < w5.drew.heap.size := lt_of_block H5.out.1.b
                      have hle : w.heap.size ≤ w5.drew.heap.size := H5.out.1.kp.size
                      exact ((H6.out.2 y e).keeps (HF.out _ rfl).2.2 (fun i hi => by rw [hi]; exact hlt)).le hle⟩
end Go.Proofs.YtjkljljmjjnneaaGreatDoor
