/- The document's Cut and Needs. -/
import Derived.Test.YtodblodbeobgeaaD2
namespace Go.Proofs.Ytodblodbeobgeaa
open Go.RowKit Go.Sort Orl
set_option linter.unusedVariables false
set_option linter.unusedSimpArgs false

theorem dHas_grown {W : World} (a : Option Addr) (n c : Nat) (xs : List Tx) (s : Tx) (hn : n = xs.length) (hl : xs.length ≤ 8796093022000) (hs : Sl TE W a c xs) (d : Nat) (os : Array Obj) :
    Calls Try.prog 31 #[.slice a n c, .string s] (Sort.grow (redrawn W d) os) fun e w'' => e = .returned (.bool (inn xs s)) ∧ ∃ p : Regrown, w'' = Sort.grow (redrawn W p.d) p.os :=
  call_grown (fun X hX => (dHas_any X a n c xs s hn hl (hs.keepsN hX)).mono fun e w' ⟨he, hk⟩ => ⟨he, by rw [hk]; exact Keeps.refl _ _⟩) d os
/-- no version among the first k is below x though x asks for it -/
def CutTo (l : List Ver) (x : Ver) (k : Nat) : Prop := ∀ j, j < k → ¬ ((l.getD j v0).id < x.id ∧ inn x.keys (l.getD j v0).key = true)
theorem whole_of {l : List Ver} (h : ∀ i, i < l.length → CutTo l (l.getD i v0) l.length) : Whole l := by
  intro x hx y hy hk
  obtain ⟨i, hi, rfl⟩ := List.getElem_of_mem hx
  obtain ⟨j, hj, rfl⟩ := List.getElem_of_mem hy
  have := h i hi j hj
  simp only [List.getD_eq_getElem?_getD, List.getElem?_eq_getElem hi, List.getElem?_eq_getElem hj, Option.getD_some] at this
  rcases Nat.lt_or_ge (l[j]).id (l[i]).id with h1 | h1
  · exact absurd ⟨h1, (inn_iff _ _).2 hk⟩ this
  · exact h1
theorem not_whole {l : List Ver} {i k : Nat} (hi : i < l.length) (hk : k < l.length) (h1 : (l.getD k v0).id < (l.getD i v0).id) (h2 : inn (l.getD i v0).keys (l.getD k v0).key = true) : ¬ Whole l := fun h => by
  have := h _ (getD_mem_lt v0 hi) _ (getD_mem_lt v0 hk) ((inn_iff _ _).1 h2)
  omega
set_option maxRecDepth 10000 in
set_option maxHeartbeats 1000000 in
theorem dCut_any (w : World) (o : Option Addr) (n c : Nat) (rs : List RV) (vs : List Ver) (hn : n = vs.length) (hf : FitL vs) (hv : Vers w o c rs vs) :
    Calls Try.prog 18 #[.slice o n c] w fun e w' => e = .returned (.bool (wholeB vs && formedB vs)) ∧ Keeps no w w' := by
  have HN : Hid (n = vs.length) := hn
  have hA : (n : Int) ≤ 2199023255500 := by have := hf.len; omega
  have HF : Hid (FitL vs) := hf
  have HV : Hid (Vers w o c rs vs) := hv
  clear hn hf hv
  go_enter Try.func18, Try.ntmps18
  go_wp2_with fail
  go_loopw [3] (fun s3 wr => ∃ i : Nat, i ≤ n ∧ s3 = .int .i64 i ∧ Hid (∀ j, j < i → CutTo vs (vs.getD j v0) vs.length) ∧ Hid (Keeps no w wr)) (fun s3 _ => n - (intOf s3).toNat)
  case atStart => exact ⟨0, by omega, rfl, fun j hj => by omega, Keeps.refl _ _⟩
  case round =>
    rename World => wr
    obtain ⟨i, hi, rfl, HT, HK⟩ := hrel
    by_cases hlt : i < n
    · have hlt' : (i : Int) < n := by omega
      have hil : i < vs.length := by have := HN.out; omega
      go_wp2_with fail
      go_loopw [4] (fun s4 wi => ∃ k : Nat, k ≤ n ∧ s4 = .int .i64 k ∧ Hid (CutTo vs (vs.getD i v0) k) ∧ Hid (Keeps no w wi)) (fun s4 _ => n - (intOf s4).toNat)
      case atStart => exact ⟨0, by omega, rfl, fun k' h => by omega, HK⟩
      case round =>
        rename World => wi
        obtain ⟨k, hk, rfl, HQ, HKI⟩ := hrel
        by_cases hki : k < n
        · have hki' : (k : Int) < n := by omega
          have hkl : k < vs.length := by have := HN.out; omega
          obtain ⟨b1, off1, p1, m1, c1, ho1, x0, x1, x2, x3, hn1, hs1⟩ := (HV.out.keepsN HKI.out).at hkl
          obtain ⟨b2, off2, p2, m2, c2, ho2, g0, g1, g2, g3, hn2, hs2⟩ := (HV.out.keepsN HKI.out).at hil
          have hbo : b2 = b1 ∧ off2 = off1 := by rw [ho1] at ho2; cases ho2; exact ⟨rfl, rfl⟩
          obtain ⟨rfl, rfl⟩ := hbo
          subst ho1
          clear ho2 x2 g2 x3 g0 hn1 hs1
          have HNW : Hid ((vs.getD k v0).id < (vs.getD i v0).id → inn (vs.getD i v0).keys (vs.getD k v0).key = true → wholeB vs = false) := fun h1 h2 => wholeB_no (not_whole hil hkl h1 h2)
          have HQN : Hid (¬ ((vs.getD k v0).id < (vs.getD i v0).id ∧ inn (vs.getD i v0).keys (vs.getD k v0).key = true) → CutTo vs (vs.getD i v0) (k + 1)) := by
            intro h j hj
            by_cases e : j = k
            · rw [e]; exact h
            · exact HQ.out j (by omega)
          have HL : Hid ((vs.getD i v0).keys.length ≤ 8796093022000 ∧ (vs.getD k v0).id < 18446744073709551616 ∧ (vs.getD i v0).id < 18446744073709551616) := ⟨(HF.out.at hil).len, (HF.out.at hkl).id, (HF.out.at hil).id⟩
          have cS := dHas_grown p2 m2 c2 _ (vs.getD k v0).key hn2 HL.out.1 hs2
          generalize vs.getD k v0 = x at x0 x1 cS HNW HQN
          generalize vs.getD i v0 = y at g1 cS HNW HQN HQ hn2 hs2
          clear hn2 hs2 HL hkl HQ
          obtain ⟨a0, a1, a2, a3⟩ := x
          obtain ⟨y0, y1, y2, y3⟩ := y
          simp only at x0 x1 g1 cS HNW HQN
          have z0 := cell_regrown x0
          have z1 := cell_regrown x1
          have q1 := cell_regrown g1
          have q3 := cell_regrown g3
          have HC : Hid (∀ d os, Calls Try.prog 31 #[.slice p2 m2 c2, .string a0] (Sort.grow (redrawn wi d) os) fun e w'' => e = .returned (.bool (inn y3 a0)) ∧ ∃ p : Regrown, w'' = Sort.grow (redrawn wi p.d) p.os) := cS
          clear cS
          by_cases h4 : a1 < y1
          · have e4 : (a1 : Int) < (y1 : Int) := by omega
            have e4' : decide ((a1 : Int) < (y1 : Int)) = true := by simpa using e4
            obtain ⟨Bq, hBq⟩ : ∃ B, B = inn y3 a0 := ⟨_, rfl⟩
            have HBq : Hid (Bq = inn y3 a0) := hBq
            rw [← hBq] at HC
            clear hBq
            go_wp2_with fail
            refine wp_region_quiet_below (by kernel_rfl) (by kernel_rfl) ?_
            repeat (go_big_quiet_step (exact HC.out _ _))
            refine wpQuiet_nil ?_
            intro _ hw'
            obtain ⟨⟨dq, osq⟩, rfl⟩ := hw'
            have K1 : Hid (Keeps no w (Sort.grow (redrawn wi dq) osq)) := HKI.out.trans (keeps_grown ..)
            generalize Sort.grow (redrawn wi dq) osq = u1 at K1 ⊢
            clear x0 x1 g1 g3 z0 z1 q1 q3 HC
            cases Bq with
            | true =>
              have HNO : Hid (wholeB vs = false) := HNW.out h4 HBq.out.symm
              go_wp2_with fail
              go_ret
              exact ⟨by rw [HNO.out]; rfl, K1.out⟩
            | false =>
              have HQ2 := HQN.out (fun h => by have := HBq.out; rw [h.2] at this; cases this)
              have HQ3 : Hid (CutTo vs ⟨y0, y1, y2, y3⟩ (k + 1)) := HQ2
              clear HQ2
              go_wp2_with fail
              go_roundw
              case rel => exact ⟨k + 1, by omega, by go_num, HQ3, K1⟩
              case measure => simp [intOf]; omega
          · have e4 : ¬ (a1 : Int) < (y1 : Int) := by omega
            have e4' : decide ((a1 : Int) < (y1 : Int)) = false := by simpa using e4
            have HQ2 := HQN.out (fun h => h4 h.1)
            have HQ3 : Hid (CutTo vs ⟨y0, y1, y2, y3⟩ (k + 1)) := HQ2
            clear HQ2
            go_wp2_with fail
            refine wp_region_quiet_below (by kernel_rfl) (by kernel_rfl) ?_
            repeat (go_big_quiet_step (fail))
            refine wpQuiet_nil ?_
            intro _ hw'
            obtain ⟨⟨dq, osq⟩, rfl⟩ := hw'
            have K1 : Hid (Keeps no w (Sort.grow (redrawn wi dq) osq)) := HKI.out.trans (keeps_grown ..)
            generalize Sort.grow (redrawn wi dq) osq = u1 at K1 ⊢
            clear x0 x1 g1 g3 z0 z1 q1 q3 HC
            go_wp2_with fail
            go_roundw
            case rel => exact ⟨k + 1, by omega, by go_num, HQ3, K1⟩
            case measure => simp [intOf]; omega
        · have hki' : ¬ (k : Int) < n := by omega
          have HN2 : Hid (∀ j, j < i + 1 → CutTo vs (vs.getD j v0) vs.length) := by
            intro j hj
            by_cases e : j = i
            · rw [e]
              have h := HQ.out
              rwa [show k = vs.length by have := HN.out; omega] at h
            · exact HT.out j (by omega)
          go_wp2_with fail
          go_roundw
          case rel => exact ⟨i + 1, by omega, by go_num, HN2, HKI⟩
          case measure => simp [intOf]; omega
    · have hlt' : ¬ (i : Int) < n := by omega
      have HB : Hid (wholeB vs = true) := (wholeB_iff vs).2 (whole_of fun j hj => HT.out j (by have := HN.out; omega))
      have hfo := dFormed_any wr o n c rs vs HN.out HF.out (HV.out.keepsN HK.out)
      have HFO : Hid (Calls Try.prog 17 #[.slice o n c] wr fun e w' => e = .returned (.bool (formedB vs)) ∧ Keeps no wr w') := hfo
      clear hfo
      go_wp2_with fail
      refine Calls.mono HFO.out ?_
      rintro e w2 ⟨rfl, hk2⟩
      go_wp2_with fail
      go_ret
      exact ⟨by rw [HB.out]; rfl, HK.out.trans hk2⟩

/-- what is wanted of the first i -/
def needsTo (l : List Ver) (i : Nat) : List Wn := (l.take i).filterMap fun y => if y.id < mostV l y then some (y.key, mostV l y) else none
theorem needsTo_succ (l : List Ver) (i : Nat) (hi : i < l.length) : needsTo l (i + 1) = needsTo l i ++ (if (l.getD i v0).id < mostV l (l.getD i v0) then [((l.getD i v0).key, mostV l (l.getD i v0))] else []) := by
  unfold needsTo
  rw [take_succ_getD l i v0 hi, List.filterMap_append]
  congr 1
  rw [List.filterMap_cons]
  split <;> rename_i h <;> split at h <;> simp_all
theorem needsTo_all (l : List Ver) : needsTo l l.length = needsV l := by unfold needsTo needsV; rw [List.take_length]
theorem needsTo_len (l : List Ver) (i : Nat) : (needsTo l i).length ≤ i := by
  unfold needsTo
  refine Nat.le_trans (List.length_filterMap_le _ _) ?_
  rw [List.length_take]; omega
theorem needs_len (l : List Ver) : (needsV l).length ≤ l.length := by rw [← needsTo_all]; exact needsTo_len l l.length
def mostTo (l : List Ver) (y : Ver) (k : Nat) : Nat := (l.take k).foldl (mostS y) y.id
theorem mostTo_succ (l : List Ver) (y : Ver) (k : Nat) (hk : k < l.length) : mostTo l y (k + 1) = mostS y (mostTo l y k) (l.getD k v0) := by
  unfold mostTo; rw [take_succ_getD l k v0 hk, List.foldl_append]; rfl
theorem mostTo_all (l : List Ver) (y : Ver) : mostTo l y l.length = mostV l y := by unfold mostTo mostV; rw [List.take_length]
theorem own_oneW (w : World) (x : Tx) (i : Nat) : Sl WE (w.alloc (.cells #[.string x, .int .u64 (i : Nat)] 41)) (some ⟨w.heap.size, 0, none⟩) 1 [(x, i)] := by
  refine ⟨.inr ⟨_, 0, rfl, fun j u hj => ?_⟩, by simp, fun e => by cases e⟩
  rw [Nat.zero_add, cell_of_blk (blk_new w _)]
  simpa [El.cells, WE] using hj
/-- what Needs tells -/
def NeedTo (w : World) (vs : List Ver) (u : Value) (w' : World) : Prop := (formedB vs = false ∧ u = .tuple #[.slice none 0 0, .int .i64 1] ∧ Keeps no w w') ∨ (formedB vs = true ∧ ∃ o n c, u = .tuple #[.slice o n c, .int .i64 0] ∧ n = (needsV vs).length ∧ Own WE w' o c (needsV vs) ∧ New w o ∧ Keeps no w w')
set_option maxRecDepth 10000 in
set_option maxHeartbeats 1000000 in
theorem dNeeds_any (w : World) (o : Option Addr) (n c : Nat) (rs : List RV) (vs : List Ver) (hn : n = vs.length) (hf : FitL vs) (hv : Vers w o c rs vs) :
    Calls Try.prog 16 #[.slice o n c] w fun e w' => ∃ u, e = .returned u ∧ NeedTo w vs u w' := by
  have HN : Hid (n = vs.length) := hn
  have hA : (n : Int) ≤ 2199023255500 := by have := hf.len; omega
  have HF : Hid (FitL vs) := hf
  have HV : Hid (Vers w o c rs vs) := hv
  have HFO : Hid (Calls Try.prog 17 #[.slice o n c] w fun e w' => e = .returned (.bool (formedB vs)) ∧ Keeps no w w') := dFormed_any w o n c rs vs hn hf hv
  clear hn hf hv
  go_enter Try.func16, Try.ntmps16
  go_wp2_with fail
  refine Calls.mono HFO.out ?_
  rintro e w1 ⟨rfl, hk1⟩
  have HK1 : Hid (Keeps no w w1) := hk1
  clear hk1 HFO
  obtain ⟨B, hB⟩ : ∃ B, B = formedB vs := ⟨_, rfl⟩
  have HB : Hid (B = formedB vs) := hB
  rw [← hB]
  clear hB
  cases B with
  | false =>
    go_wp2_with fail
    go_ret2
    exact ⟨_, rfl, .inl ⟨HB.out.symm, rfl, HK1.out⟩⟩
  | true =>
    have HFM : Hid (Formed vs) := (formedB_iff vs).1 HB.out.symm
    have hn1024 : (n : Int) ≤ 1024 := by have := HFM.out.most; have := HN.out; omega
    go_wp2_with fail
    go_loopw [4, 5] (fun s4 s5 wr => ∃ (i : Nat) (u : Value), i ≤ n ∧ s5 = .int .i64 i ∧ s4 = u ∧ Hid (∃ o n c, u = .slice o n c ∧ n = (needsTo vs i).length ∧ Own WE wr o c (needsTo vs i) ∧ New w1 o ∧ Keeps no w1 wr)) (fun _ s5 _ => n - (intOf s5).toNat)
    case atStart => exact ⟨0, _, by omega, rfl, rfl, none, 0, 0, rfl, rfl, own_nil _, new_none _, Keeps.refl _ _⟩
    case round =>
      rename World => wr
      obtain ⟨i, u, hi, rfl, rfl, HL⟩ := hrel
      obtain ⟨oo, no', co, rfl, hno, hoo, hnoo, hkk⟩ := HL.out
      have HO : Hid (no' = (needsTo vs i).length ∧ Own WE wr oo co (needsTo vs i) ∧ New w1 oo ∧ Keeps no w1 wr) := ⟨hno, hoo, hnoo, hkk⟩
      clear HL hno hoo hnoo hkk
      by_cases hlt : i < n
      · have hlt' : (i : Int) < n := by omega
        have hil : i < vs.length := by have := HN.out; omega
        have HKR : Hid (Keeps no w wr) := HK1.out.trans HO.out.2.2.2
        obtain ⟨b2, off2, p2, m2, c2, ho2, g0, g1, g2, g3, hn2, hs2⟩ := (HV.out.keepsN HKR.out).at hil
        subst ho2
        have HNS : Hid (needsTo vs (i + 1) = needsTo vs i ++ (if (vs.getD i v0).id < mostV vs (vs.getD i v0) then [((vs.getD i v0).key, mostV vs (vs.getD i v0))] else [])) := needsTo_succ vs i hil
        have HID : Hid ((vs.getD i v0).id < 18446744073709551616) := (HF.out.at hil).id
        have HCL : Hid (∀ X, Keeps no wr X → X.cell? ⟨b2, off2 + i * 4, none⟩ = some (.string (vs.getD i v0).key) ∧ X.cell? ⟨b2, off2 + i * 4 + 1, none⟩ = some (.int .u64 ((vs.getD i v0).id : Nat))) := fun X hX => ⟨hX.cellN g0, hX.cellN g1⟩
        clear hn2 hs2 g0 g2 g3
        generalize vs.getD i v0 = y at g1 HNS HID HCL
        go_wp2_with fail
        clear g1
        go_loopw [6, 7] (fun s6 s7 wi => ∃ (k M : Nat), k ≤ n ∧ s7 = .int .i64 k ∧ s6 = .int .u64 (M : Nat) ∧ M < 18446744073709551616 ∧ Hid (M = mostTo vs y k) ∧ Hid (Keeps no wr wi)) (fun _ s7 _ => n - (intOf s7).toNat)
        case atStart => exact ⟨0, y.id, by omega, rfl, rfl, HID.out, rfl, Keeps.refl _ _⟩
        case round =>
          rename World => wi
          obtain ⟨k, M, hk, rfl, rfl, hM, HQ, HKI⟩ := hrel
          obtain ⟨g0, g1⟩ := HCL.out wi HKI.out
          by_cases hki : k < n
          · have hki' : (k : Int) < n := by omega
            have hkl : k < vs.length := by have := HN.out; omega
            obtain ⟨b1, off1, p1, m1, c1, ho1, x0, x1, x2, x3, hn1, hs1⟩ := (HV.out.keepsN (HKR.out.trans HKI.out)).at hkl
            have hbo : b1 = b2 ∧ off1 = off2 := by cases ho1; exact ⟨rfl, rfl⟩
            obtain ⟨rfl, rfl⟩ := hbo
            clear ho1 x0 x2
            have HMS : Hid (mostTo vs y (k + 1) = mostS y (mostTo vs y k) (vs.getD k v0)) := mostTo_succ vs y k hkl
            have HL : Hid ((vs.getD k v0).keys.length ≤ 8796093022000 ∧ (vs.getD k v0).id < 18446744073709551616) := ⟨(HF.out.at hkl).len, (HF.out.at hkl).id⟩
            have cS := dHas_grown p1 m1 c1 _ y.key hn1 HL.out.1 hs1
            generalize vs.getD k v0 = x at x1 cS HMS HL hn1 hs1
            clear hn1 hs1 hkl
            obtain ⟨a0, a1, a2, a3⟩ := x
            obtain ⟨y0, y1, y2, y3⟩ := y
            simp only at x1 g0 g1 cS HL
            have hx1 : a1 < 18446744073709551616 := HL.out.2
            have z1 := cell_regrown x1
            have z3 := cell_regrown x3
            have q0 := cell_regrown g0
            have q1 := cell_regrown g1
            have HC : Hid (∀ d os, Calls Try.prog 31 #[.slice p1 m1 c1, .string y0] (Sort.grow (redrawn wi d) os) fun e w'' => e = .returned (.bool (inn a3 y0)) ∧ ∃ p : Regrown, w'' = Sort.grow (redrawn wi p.d) p.os) := cS
            have HXC : Hid (∀ X, Keeps no wi X → X.cell? ⟨b1, off1 + k * 4 + 1, none⟩ = some (.int .u64 (a1 : Nat))) := fun X hX => hX.cellN x1
            clear cS
            by_cases h4 : M < a1
            · have e4 : (M : Int) < (a1 : Int) := by omega
              have e4' : decide ((M : Int) < (a1 : Int)) = true := by simpa using e4
              obtain ⟨Bq, hBq⟩ : ∃ B, B = inn a3 y0 := ⟨_, rfl⟩
              have HBq : Hid (Bq = inn a3 y0) := hBq
              rw [← hBq] at HC
              clear hBq
              go_wp2_with fail
              refine wp_region_quiet_below (by kernel_rfl) (by kernel_rfl) ?_
              repeat (go_big_quiet_step (exact HC.out _ _))
              refine wpQuiet_nil ?_
              intro _ hw'
              obtain ⟨⟨dq, osq⟩, rfl⟩ := hw'
              have K2 : Hid (Keeps no wi (Sort.grow (redrawn wi dq) osq)) := keeps_grown ..
              have K1 : Hid (Keeps no w (Sort.grow (redrawn wi dq) osq)) := (HKR.out.trans HKI.out).trans (keeps_grown ..)
              generalize Sort.grow (redrawn wi dq) osq = u1 at K1 K2 ⊢
              clear x1 x3 g0 g1 z1 z3 q0 q1 HC
              cases Bq with
              | true =>
                have HM2 : Hid (a1 = mostTo vs ⟨y0, y1, y2, y3⟩ (k + 1)) := by
                  show _ = _
                  rw [HMS.out, ← HQ.out]
                  unfold mostS
                  rw [if_pos ⟨h4, HBq.out.symm⟩]
                have x9 := HXC.out u1 K2.out
                go_wp2_with fail
                go_roundw
                case rel => exact ⟨k + 1, a1, by omega, by go_num, rfl, hx1, HM2, HKI.out.trans K2.out⟩
                case measure => simp [intOf]; omega
              | false =>
                have HM2 : Hid (M = mostTo vs ⟨y0, y1, y2, y3⟩ (k + 1)) := by
                  show _ = _
                  rw [HMS.out, ← HQ.out]
                  unfold mostS
                  rw [if_neg (fun h => by have := HBq.out; rw [h.2] at this; cases this)]
                go_wp2_with fail
                go_roundw
                case rel => exact ⟨k + 1, M, by omega, by go_num, rfl, hM, HM2, HKI.out.trans K2.out⟩
                case measure => simp [intOf]; omega
            · have e4 : ¬ (M : Int) < (a1 : Int) := by omega
              have e4' : decide ((M : Int) < (a1 : Int)) = false := by simpa using e4
              have HM2 : Hid (M = mostTo vs ⟨y0, y1, y2, y3⟩ (k + 1)) := by
                show _ = _
                rw [HMS.out, ← HQ.out]
                unfold mostS
                rw [if_neg (fun h => h4 h.1)]
              go_wp2_with fail
              refine wp_region_quiet_below (by kernel_rfl) (by kernel_rfl) ?_
              repeat (go_big_quiet_step (fail))
              refine wpQuiet_nil ?_
              intro _ hw'
              obtain ⟨⟨dq, osq⟩, rfl⟩ := hw'
              have K2 : Hid (Keeps no wi (Sort.grow (redrawn wi dq) osq)) := keeps_grown ..
              have K1 : Hid (Keeps no w (Sort.grow (redrawn wi dq) osq)) := (HKR.out.trans HKI.out).trans (keeps_grown ..)
              generalize Sort.grow (redrawn wi dq) osq = u1 at K1 K2 ⊢
              clear x1 x3 g0 g1 z1 z3 q0 q1 HC
              go_wp2_with fail
              go_roundw
              case rel => exact ⟨k + 1, M, by omega, by go_num, rfl, hM, HM2, HKI.out.trans K2.out⟩
              case measure => simp [intOf]; omega
          · have hki' : ¬ (k : Int) < n := by omega
            have HM3 : Hid (M = mostV vs y) := by
              have h := HQ.out
              rwa [show k = vs.length by have := HN.out; omega, mostTo_all] at h
            clear HQ
            obtain ⟨y0, y1, y2, y3⟩ := y
            simp only at g0 g1
            have HLB : Hid ((needsTo vs i).length ≤ 1024) := by have := needsTo_len vs i; have h := hn1024; show _ ≤ _; omega
            by_cases h5 : y1 < M
            · have e5 : (y1 : Int) < (M : Int) := by omega
              have HNN : Hid (needsTo vs (i + 1) = needsTo vs i ++ [(y0, M)]) := by show _ = _; rw [HNS.out, ← HM3.out, if_pos h5]
              clear HNS
              go_wp2_with (at_builtin; refine wpList_app okW rfl _ _ rfl _ _ _ (needsTo vs i) rfl HO.out.1 (HO.out.2.1.keepsN (HKI.out.alloc _)) _ _ _ [(y0, M)] rfl rfl (fun h => by cases h) (own_oneW wi y0 M).row (by have := HLB.out; simp [WE]; omega) (by have := HLB.out; simp; omega) ?_; intro os6 cs6 ws6 hos6 haps6)
              go_roundw
              case rel =>
                have k4 := haps6.new (w0 := w1) HO.out.2.2.1 (HO.out.2.2.2.trans (HKI.out.alloc _))
                refine ⟨i + 1, _, by omega, by go_num, rfl, os6, _, cs6, rfl, ?_, ?_, k4.1, k4.2⟩
                · rw [HNN.out, List.length_append, ← HO.out.1]; rfl
                · rw [HNN.out]; exact hos6
              case measure => simp [intOf]; omega
            · have e5 : ¬ (y1 : Int) < (M : Int) := by omega
              have HNN : Hid (needsTo vs (i + 1) = needsTo vs i) := by show _ = _; rw [HNS.out, ← HM3.out, if_neg h5, List.append_nil]
              clear HNS
              go_wp2_with fail
              go_roundw
              case rel =>
                refine ⟨i + 1, _, by omega, by go_num, rfl, oo, no', co, rfl, ?_, ?_, HO.out.2.2.1, HO.out.2.2.2.trans HKI.out⟩
                · rw [HNN.out]; exact HO.out.1
                · rw [HNN.out]; exact HO.out.2.1.keepsN HKI.out
              case measure => simp [intOf]; omega
      · have hlt' : ¬ (i : Int) < n := by omega
        have hin : i = vs.length := by have := HN.out; omega
        have HO2 := HO.out
        rw [hin, needsTo_all] at HO2
        have HO3 : Hid (no' = (needsV vs).length ∧ Own WE wr oo co (needsV vs) ∧ New w1 oo ∧ Keeps no w1 wr) := HO2
        clear HO2 HO hin
        go_wp2_with fail
        go_ret2
        exact ⟨_, rfl, .inr ⟨HB.out.symm, oo, no', co, rfl, HO3.out.1, HO3.out.2.1, HO3.out.2.2.1.of_le HK1.out.size, HK1.out.trans HO3.out.2.2.2⟩⟩
end Go.Proofs.Ytodblodbeobgeaa
