/- The document's May. -/
import Derived.Test.YtdalheeifgampabDoorS1
namespace Go.Proofs.YtdalheeifgampabDoor
open Go.RowKit Go.Sort Orl Pk
set_option linter.unusedVariables false
set_option linter.unusedSimpArgs false

theorem rHas_any (w : World) (a : Option Addr) (n c : Nat) (xs : List Tx) (s : Tx) (hn : n = xs.length) (hl : (n : Int) ≤ 8796093022000) (hs : Sl TE w a c xs) :
    Calls Tryd.prog 52 #[.slice a n c, .string s] w fun e w' => e = .returned (.bool (inn xs s)) ∧ w' = w := by
  have HA : Hid (n = xs.length) := hn
  clear hn
  obtain ⟨R, hR⟩ : ∃ R, inn xs s = R := ⟨_, rfl⟩
  have HR : Hid (inn xs s = R) := hR
  rw [hR]
  clear hR
  go_enter Tryd.func52, Tryd.ntmps52
  go_wp2_with fail
  go_loop [5] (fun i => ∃ k : Nat, k ≤ n ∧ i = .int .i64 k ∧ Hid (s ∉ xs.take k)) (fun i => n - (intOf i).toNat)
  case atStart => exact ⟨0, by omega, rfl, show s ∉ xs.take 0 by simp⟩
  case round =>
    obtain ⟨k, hk, rfl, HT⟩ := hrel
    by_cases h2 : k < n
    · have hka : k < xs.length := by have := HA.out; omega
      obtain ⟨b1, off1, rfl, d1⟩ := hs.at hka
      obtain ⟨x, hx⟩ : ∃ x, x = xs.getD k e0 := ⟨_, rfl⟩
      rw [← hx] at d1
      have HX : Hid (x = xs.getD k e0) := hx
      clear hx hka
      by_cases hxy : x = s
      · have hxy' : (x.toList == s.toList) = true := by rw [tx_eq]; simpa using hxy
        go_wp2
        go_ret
        refine ⟨?_, rfl⟩
        have : s ∈ xs := by
          rw [← hxy, HX.out]; exact getD_mem_lt _ (by have := HA.out; omega)
        rw [← HR.out, (inn_iff xs s).2 this]; rfl
      · have hxy' : (x.toList == s.toList) = false := by rw [tx_eq]; simpa using hxy
        go_wp2
        go_round
        case rel =>
          refine ⟨k + 1, by omega, by go_num, ?_⟩
          show s ∉ xs.take (k + 1)
          rw [take_succ_getD xs k e0 (by have := HA.out; omega), ← HX.out]
          have := HT.out
          simp only [List.mem_append, List.mem_singleton, not_or]
          exact ⟨this, fun e => hxy e.symm⟩
        case measure => simp [intOf]; omega
    · go_wp2
      go_ret
      refine ⟨?_, rfl⟩
      have := HT.out
      rw [List.take_of_length_le (by have := HA.out; omega)] at this
      rw [← HR.out, inn_no this]; rfl

set_option maxRecDepth 10000 in
theorem rRising_any (w : World) (a : Option Addr) (n c : Nat) (xs : List Tx) (hn : n = xs.length) (hs : Sl TE w a c xs) (hf : ∀ s ∈ xs, s.size ≤ 140737488351232) :
    Calls Tryd.prog 51 #[.slice a n c] w fun e w' => e = .returned (.bool (mayK xs)) ∧ Keeps no w w' := by
  have HN : Hid (n = xs.length) := hn
  clear hn
  by_cases h0 : n = 0
  · subst h0
    have := mayK_none (l := xs) (by have := HN.out; omega)
    rw [this]
    go_enter Tryd.func51, Tryd.ntmps51
    go_wp2
    go_ret
    exact ⟨rfl, Keeps.refl _ _⟩
  by_cases h1 : 1024 < n
  · have := mayK_none (l := xs) (by have := HN.out; omega)
    rw [this]
    have h2 : (n : Int) > 1024 := by omega
    have h3 : ¬ (n : Int) < 1 := by omega
    clear h1
    go_enter Tryd.func51, Tryd.ntmps51
    go_wp2
    go_ret
    exact ⟨rfl, Keeps.refl _ _⟩
  have h2 : (n : Int) ≤ 1024 := by omega
  have h2b : decide ((1024 : Int) < n) = false := by simp; omega
  have h3 : ¬ (n : Int) < 1 := by omega
  have h3b : decide ((n : Int) < 1) = false := by simp; omega
  clear h1
  obtain ⟨R, hR⟩ : ∃ R, mayK xs = R := ⟨_, rfl⟩
  have HR : Hid (mayK xs = R) := hR
  rw [hR]
  clear hR
  go_enter Tryd.func51, Tryd.ntmps51
  go_wp2_with fail
  go_loopw [3] (fun i wr => ∃ k m : Nat, k ≤ n ∧ i = .int .i64 k ∧ wr = w.drewN m ∧ Hid ((∀ j, j < k → (xs.getD j e0).size ≤ 65535) ∧ ∀ j, j + 1 < k → lts (xs.getD j e0) (xs.getD (j + 1) e0) = true)) (fun i _ => n - (intOf i).toNat)
  case atStart => exact ⟨0, 0, by omega, rfl, rfl, fun j hj => absurd hj (Nat.not_lt_zero _), fun j hj => absurd hj (Nat.not_lt_zero _)⟩
  case round =>
    obtain ⟨k, m, hk, rfl, rfl, HT⟩ := hrel
    by_cases h4 : k < n
    · have hks : k < xs.length := by have := HN.out; omega
      have hsz := hf _ (getD_mem_lt e0 hks)
      have h4' : (k : Int) < n := by omega
      obtain ⟨b, off, rfl, d1⟩ := hs.at hks
      obtain ⟨x, hx⟩ : ∃ x, x = xs.getD k e0 := ⟨_, rfl⟩
      rw [← hx] at d1 hsz
      have HX : Hid (x = xs.getD k e0) := hx
      clear hx
      by_cases hl : 65535 < x.size
      · have hl2 : (65535 : Int) < (x.size : Int) := by omega
        have hl3 : decide ((65535 : Int) < (x.size : Int)) = true := decide_eq_true hl2
        have hl4 : decide (65535 < x.size) = true := decide_eq_true hl
        have := mayK_long hks (by rw [← HX.out]; exact hl)
        rw [HR.out] at this
        subst this
        go_wp2
        go_quiet (fail)
        go_wp2
        go_ret
        exact ⟨rfl, ((Keeps.refl _ _).drewN _).drewN _⟩
      · have hl2 : ¬ (65535 : Int) < (x.size : Int) := by omega
        have hl3 : decide ((65535 : Int) < (x.size : Int)) = false := decide_eq_false hl2
        have hl4 : decide (65535 < x.size) = false := decide_eq_false hl
        by_cases hk0 : k = 0
        · subst hk0
          rw [Nat.add_zero] at d1
          go_wp2
          go_quiet (fail)
          go_wp2
          go_roundw
          case rel =>
            refine ⟨1, _, by omega, by go_num, rfl, fun j hj => ?_, fun j hj => by omega⟩
            obtain rfl : j = 0 := by omega
            rw [← HX.out]; omega
          case measure => simp [intOf]; omega
        · obtain ⟨k', rfl⟩ : ∃ k', k = k' + 1 := ⟨k - 1, by omega⟩
          obtain ⟨b2, off2, e2, d2⟩ := hs.at (j := k') (by omega)
          cases e2
          obtain ⟨y, hy⟩ : ∃ y, y = xs.getD k' e0 := ⟨_, rfl⟩
          rw [← hy] at d2
          have HY : Hid (y = xs.getD k' e0) := hy
          clear hy
          have g6 : (0 : Int) < (k' : Int) + 1 := by omega
          have g7 : (k' : Int) + 1 - 1 = (k' : Int) := by omega
          have g8 : k' < n := by omega
          have j1 : (k' : Int) + 1 < n := by omega
          have j3 : (k' : Int) < n := by omega
          have j4 : IntKind.i64.wrap (k' : Int) = (k' : Int) := by rw [IntKind.wrap_i64]; omega
          cases hxy : Op.bytesLess y.toList x.toList
          · have := mayK_fall (l := xs) (k := k') hks (by rw [← HX.out, ← HY.out]; exact hxy)
            rw [HR.out] at this
            subst this
            go_wp2
            go_quiet (fail)
            go_wp2
            go_ret
            exact ⟨rfl, ((Keeps.refl _ _).drewN _).drewN _⟩
          · go_wp2
            go_quiet (fail)
            go_wp2
            go_roundw
            case rel =>
              refine ⟨k' + 1 + 1, _, by omega, by go_num, rfl, fun j hj => ?_, fun j hj => ?_⟩
              · by_cases e : j = k' + 1
                · subst e; rw [← HX.out]; omega
                · exact HT.out.1 j (by omega)
              · by_cases e : j = k'
                · subst e; rw [← HX.out, ← HY.out]; exact hxy
                · exact HT.out.2 j (by omega)
            case measure => simp [intOf]; omega
    · have hkn : k = n := by omega
      have := mayK_of (l := xs) (by have := HN.out; omega) (by have := HN.out; omega) (fun j hj => HT.out.1 j (by have := HN.out; omega)) (fun j hj => HT.out.2 j (by have := HN.out; omega))
      rw [HR.out] at this
      subst this
      go_wp2
      go_ret
      exact ⟨rfl, (Keeps.refl _ _).drewN _⟩

theorem kys_getD (l : List Pr) (j : Nat) (h : j < l.length) : (kys l).getD j e0 = (l.getD j p0).1 := by
  simp [kys, List.getD_eq_getElem?_getD, h]
theorem mayP_of {l : List Pr} {ks : List Tx} (h1 : 1 ≤ l.length) (hall : ∀ j, j < l.length → inn ks (l.getD j p0).1 = true ∧ (l.getD j p0).2.size ≤ 65535) (hr : ∀ j, j + 1 < l.length → lts (l.getD j p0).1 (l.getD (j + 1) p0).1 = true) : mayP l ks = true := by
  have e1 : (l.all fun p => decide (p.2.size ≤ 65535)) = true := by
    rw [List.all_eq_true]
    intro p hp
    obtain ⟨j, hj, rfl⟩ := List.getElem_of_mem hp
    have := (hall j hj).2
    simp [hj] at this
    simpa using this
  have e2 : rising lts (kys l) = true := rising_of_all (lt := lts) e0 _ (fun j hj => by
    rw [kys_length] at hj
    rw [kys_getD l j (by omega), kys_getD l (j + 1) hj]
    exact hr j hj)
  have e3 : (kys l).all (inn ks) = true := by
    rw [List.all_eq_true]
    intro k hk
    obtain ⟨p, hp, rfl⟩ := List.mem_map.1 hk
    obtain ⟨j, hj, rfl⟩ := List.getElem_of_mem hp
    have := (hall j hj).1
    simp [hj] at this
    exact this
  unfold mayP; rw [e1, e2, e3]; simp [h1]
theorem mayP_in {l : List Pr} {ks : List Tx} {j : Nat} (hj : j < l.length) (h : inn ks (l.getD j p0).1 = false) : mayP l ks = false := by
  have : (kys l).all (inn ks) = false := by
    rw [List.all_eq_false]
    exact ⟨(l.getD j p0).1, List.mem_map.2 ⟨_, getD_mem_lt p0 hj, rfl⟩, by simpa using h⟩
  unfold mayP; rw [this]; simp
theorem mayP_val {l : List Pr} {ks : List Tx} {j : Nat} (hj : j < l.length) (h : 65535 < (l.getD j p0).2.size) : mayP l ks = false := by
  have : (l.all fun p => decide (p.2.size ≤ 65535)) = false := by
    rw [List.all_eq_false]
    exact ⟨_, getD_mem_lt p0 hj, by simp at h ⊢; exact h⟩
  unfold mayP; rw [this]; simp
theorem mayP_rise {l : List Pr} {ks : List Tx} {j : Nat} (hj : j + 1 < l.length) (h : lts (l.getD j p0).1 (l.getD (j + 1) p0).1 = false) : mayP l ks = false := by
  have := rising_fail (lt := lts) e0 (kys l) j (by rw [kys_length]; exact hj) (by rw [kys_getD l j (by omega), kys_getD l (j + 1) hj]; exact h)
  unfold mayP; rw [this]; simp
theorem mayP_none {ks : List Tx} : mayP [] ks = false := by unfold mayP; simp
theorem may_1' {r : Rec} (h : r.kind = 1) (hi : 65536 ≤ r.id) : may r = (mayK r.keys && mayP r.pairs r.keys) := by
  unfold may
  rw [if_pos h, decide_eq_true hi]; rfl

set_option maxRecDepth 20000 in
set_option maxHeartbeats 4000000 in
theorem rMay_any (w : World) (k : Int) (i : Nat) (op : Option Addr) (np cp : Nat) (ok : Option Addr) (nk ck : Nat) (m : Rec) (h : IsC w ⟨k, i, op, np, cp, ok, nk, ck⟩ m) :
    Calls Tryd.prog 37 #[.agg #[.int .i64 k, .int .u64 (i : Nat), .slice op np cp, .slice ok nk ck]] w fun e w' => e = .returned (.bool (may m)) ∧ Keeps no w w' := by
  have H : Hid (IsC w ⟨k, i, op, np, cp, ok, nk, ck⟩ m) := h
  have hid : i < 18446744073709551616 := by have := h.fit.id; rw [← h.i] at this; exact this
  have lp : np ≤ 4398046511000 := by have := h.fit.plen; have h2 := h.np; simp only at h2; omega
  have lk : (nk : Int) ≤ 8796093022000 := by have := h.fit.klen; have h2 := h.nk; simp only at h2; omega
  have HNP : Hid (np = m.pairs.length) := h.np
  have HI : Hid (i = m.id) := h.i
  have HKD : Hid (k = m.kind) := h.k
  clear h
  obtain ⟨R, hR⟩ : ∃ R, may m = R := ⟨_, rfl⟩
  have HR : Hid (may m = R) := hR
  rw [hR]
  clear hR
  have hk0 : Keeps no w (w.alloc (.cells #[.int .i64 k, .int .u64 (i : Nat), .slice op np cp, .slice ok nk ck] 30)) := (Keeps.refl _ _).alloc _
  by_cases hlow : i < 65536
  · have hlow2 : (i : Int) < 65536 := by omega
    have : R = false := by rw [← HR.out]; exact may_low (by rw [← HI.out]; exact hlow)
    subst this
    go_enter Tryd.func37, Tryd.ntmps37
    go_wp2_with fail
    go_ret
    exact ⟨rfl, hk0⟩
  have hlow2 : ¬ (i : Int) < 65536 := by omega
  have HLOW : Hid (65536 ≤ m.id) := by show 65536 ≤ m.id; have := HI.out; omega
  by_cases hk2 : k = 2
  · subst hk2
    have hm := may_2 (r := m) HKD.out.symm HLOW.out
    rw [HR.out] at hm
    have HM : Hid (R = (decide (np = 0) && decide (nk = 0))) := by
      show _ = _
      have e1 := H.out.np; have e2 := H.out.nk
      simp only at e1 e2
      rw [hm, e1, e2]
    clear hm
    by_cases h3 : np = 0
    · by_cases h4 : nk = 0
      · subst h3; subst h4
        go_enter Tryd.func37, Tryd.ntmps37
        go_wp2_with fail
        go_ret
        exact ⟨by rw [HM.out]; rfl, hk0⟩
      · have h4' : ((nk : Int) == 0) = false := by simp; omega
        subst h3
        have : R = false := by rw [HM.out]; simp [h4]
        subst this
        go_enter Tryd.func37, Tryd.ntmps37
        go_wp2_with fail
        go_ret
        exact ⟨rfl, hk0⟩
    · have h3' : ((np : Int) == 0) = false := by simp; omega
      have : R = false := by rw [HM.out]; simp [h3]
      subst this
      go_enter Tryd.func37, Tryd.ntmps37
      go_wp2_with fail
      go_ret
      exact ⟨rfl, hk0⟩
  have hk2b : (k == 2) = false := by simpa using hk2
  by_cases hk1 : k = 1
  case neg =>
    have hk1b : (k == 1) = false := by simpa using hk1
    have : R = false := by rw [← HR.out]; exact may_else (by rw [← HKD.out]; exact hk1) (by rw [← HKD.out]; exact hk2)
    subst this
    go_enter Tryd.func37, Tryd.ntmps37
    go_wp2_with fail
    go_ret
    exact ⟨rfl, hk0⟩
  subst hk1
  have hm := may_1' (r := m) HKD.out.symm HLOW.out
  rw [HR.out] at hm
  have HR : Hid ((mayK m.keys && mayP m.pairs m.keys) = R) := hm.symm
  clear hm hk2 hk2b
  go_enter Tryd.func37, Tryd.ntmps37
  go_wp2_with fail
  refine (rRising_any _ ok nk ck m.keys H.out.nk (H.out.kys.keepsN hk0) H.out.fit.keys).mono ?_
  rintro e w2 ⟨rfl, hk2⟩
  have hb2 := hk2.at (blk_new w _) (fun h => h)
  have HB2 : Hid (w2.heap[w.heap.size]? = some (.cells #[.int .i64 1, .int .u64 (i : Nat), .slice op np cp, .slice ok nk ck] 30 (0, 0))) := hb2
  obtain ⟨A, hA⟩ : ∃ A, A = w.heap.size := ⟨_, rfl⟩
  have hk02 := hk0.trans hk2
  by_cases g2 : mayK m.keys = true
  case neg =>
    have g2' : mayK m.keys = false := by simpa using g2
    rw [g2']
    clear hA
    go_wp2
    go_ret
    exact ⟨by rw [← HR.out, g2', Bool.false_and]; rfl, hk02⟩
  rw [g2]
  rw [g2, Bool.true_and] at HR
  rw [← hA] at HB2 hb2 ⊢
  clear hA
  obtain ⟨x0, x1, x2, x3⟩ := cells4 hb2
  clear hb2
  by_cases g3 : np = 0
  · subst g3
    go_wp2
    go_ret
    refine ⟨?_, hk02⟩
    rw [← HR.out, len0 HNP.out.symm, mayP_none]; rfl
  have g3' : ¬ (np : Int) < 1 := by omega
  have g3b : decide ((np : Int) < 1) = false := by simp; omega
  go_wp2_with fail
  go_loopw [3] (fun j wr => ∃ t : Nat, t ≤ np ∧ j = .int .i64 t ∧ Hid ((∀ j, j < t → inn m.keys (m.pairs.getD j p0).1 = true ∧ (m.pairs.getD j p0).2.size ≤ 65535) ∧ ∀ j, j + 1 < t → lts (m.pairs.getD j p0).1 (m.pairs.getD (j + 1) p0).1 = true) ∧ Keeps no w2 wr) (fun j _ => np - (intOf j).toNat)
  case atStart => exact ⟨0, by omega, rfl, ⟨fun j hj => absurd hj (Nat.not_lt_zero _), fun j hj => absurd hj (Nat.not_lt_zero _)⟩, Keeps.refl _ _⟩
  case round =>
    obtain ⟨t, ht, rfl, HT, hkr⟩ := hrel
    clear x0 x1 x2 x3
    have hkr0 := hk02.trans hkr
    by_cases h2 : t < np
    · have hta : t < m.pairs.length := by rw [← HNP.out]; exact h2
      have h2' : (t : Int) < np := by omega
      obtain ⟨b1, off1, e1, d1, d2⟩ := (H.out.prs.keepsN hkr0).atP hta
      simp only at e1
      subst e1
      have hps := (H.out.fit.pairs _ (getD_mem_lt p0 hta)).2
      have HTA : Hid (t < m.pairs.length) := hta
      rcases hx : m.pairs.getD t p0 with ⟨u1, u2⟩
      rw [hx] at d1 d2 hps
      simp only at d1 d2 hps
      have HX : Hid (m.pairs.getD t p0 = (u1, u2)) := hx
      have hA := hkr.at HB2.out (fun h => h)
      have HKK : Hid (∀ wz, Keeps no w wz → Calls Tryd.prog 52 #[.slice ok nk ck, .string u1] wz fun e w' => e = .returned (.bool (inn m.keys u1)) ∧ w' = wz) := fun wz hz => rHas_any wz ok nk ck m.keys u1 H.out.nk lk (H.out.kys.keepsN hz)
      obtain ⟨x0, x1, x2, x3⟩ := cells4 hA
      have hA' := blk_alloc hA (.cells #[.string u1, .string u2] 71)
      obtain ⟨y0, y1, y2, y3⟩ := cells4 hA'
      have e1 : (wr.alloc (.cells #[.string u1, .string u2] 71)).cell? ⟨b1, off1 + t * 2, none⟩ = some (.string u1) := ((Keeps.refl no wr).alloc _).cellN d1
      have kz := (hkr0.alloc (.cells #[.string u1, .string u2] 71))
      have HKZ : Hid (Keeps no w (wr.alloc (.cells #[.string u1, .string u2] 71))) := kz
      clear hx hta hA hA' kz
      obtain ⟨IB, hIB⟩ : ∃ B, B = inn m.keys u1 := ⟨_, rfl⟩
      rw [← hIB] at HKK
      have HIB : Hid (IB = inn m.keys u1) := hIB
      clear hIB
      by_cases g4 : u2.size ≤ 65535
      case neg =>
        have g4' : (65535 : Int) < (u2.size : Int) := by omega
        have g4a : decide ((65535 : Int) < (u2.size : Int)) = true := decide_eq_true g4'
        have g4b : decide (65535 < u2.size) = true := decide_eq_true (by omega)
        go_wp2_with fail
        go_quiet ((go_at_call 52; exact Calls.quiet_of_same (HKK.out _ (HKZ.out.drewN _))))
        go_wp2
        go_ret
        refine ⟨?_, HKZ.out.drewN _⟩
        rw [← HR.out, mayP_val HTA.out (by rw [HX.out]; simp only; omega)]; rfl
      have g4' : ¬ (65535 : Int) < (u2.size : Int) := by omega
      have g4a : decide ((65535 : Int) < (u2.size : Int)) = false := decide_eq_false g4'
      have g4b : decide (65535 < u2.size) = false := decide_eq_false (by omega)
      cases IB with
      | false =>
        go_wp2_with fail
        go_quiet ((go_at_call 52; exact Calls.quiet_of_same (HKK.out _ (HKZ.out.drewN _))))
        go_wp2
        go_ret
        refine ⟨?_, HKZ.out.drewN _⟩
        rw [← HR.out, mayP_in HTA.out (by rw [HX.out]; exact HIB.out.symm)]; rfl
      | true =>
        by_cases g5 : t = 0
        · subst g5
          simp only [Nat.zero_mul, Nat.add_zero] at d1 d2 e1
          go_wp2_with fail
          go_quiet ((go_at_call 52; exact Calls.quiet_of_same (HKK.out _ (HKZ.out.drewN _))))
          go_wp2
          go_roundw
          case rel =>
            refine ⟨1, by omega, by go_num, ⟨fun j hj => ?_, fun j hj => by omega⟩, (hkr.alloc _).drewN _⟩
            obtain rfl : j = 0 := by omega
            rw [HX.out]; exact ⟨HIB.out.symm, g4⟩
          case measure => simp [intOf]; omega
        · obtain ⟨T, rfl⟩ : ∃ T, t = T + 1 := ⟨t - 1, by omega⟩
          obtain ⟨b2, off2, eb, d3, d4⟩ := (H.out.prs.keepsN hkr0).atP (j := T) (by have := HTA.out; omega)
          cases eb
          rcases hy : m.pairs.getD T p0 with ⟨v1, v2⟩
          rw [hy] at d3 d4
          simp only at d3 d4
          have HY : Hid (m.pairs.getD T p0 = (v1, v2)) := hy
          have e3 : (wr.alloc (.cells #[.string u1, .string u2] 71)).cell? ⟨b1, off1 + T * 2, none⟩ = some (.string v1) := ((Keeps.refl no wr).alloc _).cellN d3
          clear hy
          have g6 : (0 : Int) < (T : Int) + 1 := by omega
          have g7 : (T : Int) + 1 - 1 = (T : Int) := by omega
          have g8 : T < np := by omega
          have j1 : (T : Int) + 1 < np := by omega
          have j2 : (np : Int) ≤ 4398046511000 := by omega
          have j3 : (T : Int) < np := by omega
          have j4 : IntKind.i64.wrap (T : Int) = (T : Int) := by rw [IntKind.wrap_i64]; omega
          by_cases g9 : lts v1 u1 = true
          · have g9' : Op.bytesLess v1.toList u1.toList = true := g9
            have G9 : Hid (lts v1 u1 = true) := g9
            clear g9
            go_wp2_with fail
            go_quiet ((go_at_call 52; exact Calls.quiet_of_same (HKK.out _ (HKZ.out.drewN _))))
            go_wp2
            go_roundw
            case rel =>
              refine ⟨T + 2, by omega, by go_num, ⟨fun j hj => ?_, fun j hj => ?_⟩, (hkr.alloc _).drewN _⟩
              · by_cases e : j = T + 1
                · subst e; rw [HX.out]; exact ⟨HIB.out.symm, g4⟩
                · exact HT.out.1 j (by omega)
              · by_cases e : j = T
                · subst e; rw [HX.out, HY.out]; exact G9.out
                · exact HT.out.2 j (by omega)
            case measure => simp [intOf]; omega
          · have g9' : Op.bytesLess v1.toList u1.toList = false := by have := g9; unfold lts at this; simpa using this
            have G9 : Hid (lts v1 u1 = false) := g9'
            clear g9
            go_wp2_with fail
            go_quiet ((go_at_call 52; exact Calls.quiet_of_same (HKK.out _ (HKZ.out.drewN _))))
            go_wp2
            go_ret
            refine ⟨?_, HKZ.out.drewN _⟩
            rw [← HR.out, mayP_rise (j := T) HTA.out (by rw [HX.out, HY.out]; exact G9.out)]; rfl
    · have hA := hkr.at HB2.out (fun h => h)
      obtain ⟨x0, x1, x2, x3⟩ := cells4 hA
      clear hA
      go_wp2
      go_ret
      refine ⟨?_, hkr0⟩
      have hnp := HNP.out
      rw [← HR.out, mayP_of (by omega) (fun j hj => HT.out.1 j (by omega)) (fun j hj => HT.out.2 j (by omega))]; rfl
end Go.Proofs.YtdalheeifgampabDoor
