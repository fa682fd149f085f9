import Derived.Test.YtgamhblkgojapaaGreatDoorGS
import Derived.Deep.CutBlock
import Derived.Deep.RegionWith
/- The document's May. -/
namespace Go.Proofs.YtgamhblkgojapaaGreatDoor
open Go.RowKit Go.Sort Orl Pk
set_option linter.unusedVariables false
set_option linter.unusedSimpArgs false

def OwnTo (w : World) (bs : List Nat) (e : Ending) (w' : World) : Prop := ∃ o n c, e = .returned (.slice o n c) ∧ Hid (n = bs.length) ∧ Owns w' o c bs ∧ New w o ∧ Keeps no w w'

theorem rHas_any (w : World) (a : Option Addr) (n c : Nat) (xs : List Tx) (s : Tx) (hn : n = xs.length) (hl : (n : Int) ≤ 8796093022000) (hs : Sl TE w a c xs) :
    Calls Tryz.prog 88 #[.slice a n c, .string s] w fun e w' => e = .returned (.bool (inn xs s)) ∧ w' = w := by
  have HA : Hid (n = xs.length) := hn
  clear hn
  obtain ⟨R, hR⟩ : ∃ R, inn xs s = R := ⟨_, rfl⟩
  have HR : Hid (inn xs s = R) := hR
  rw [hR]
  clear hR
  go_enter Tryz.func88, Tryz.ntmps88
  go_wp2_with fail
  go_loop [5] (fun i => ∃ k : Nat, k ≤ n ∧ i = .int .i64 k ∧ Hid (s ∉ xs.take k)) (fun i => n - (intOf i).toNat)
  case atStart => exact ⟨0, by omega, rfl, show s ∉ xs.take 0 by simp⟩
  case round =>
    obtain ⟨k, hk, rfl, HT⟩ := hrel
    by_cases h2 : k < n
    · have hka : k < xs.length := by have := HA.out; omega
      obtain ⟨b1, off1, rfl, d1⟩ := hs.at hka
      obtain ⟨x, hx⟩ : ∃ x, x = xs.getD k e0 := ⟨_, rfl⟩
      rw [← hx] at d1
      have HX : Hid (x = xs.getD k e0) := hx
      clear hx hka
      by_cases hxy : x = s
      · have hxy' : (x.toList == s.toList) = true := by rw [tx_eq]; simpa using hxy
        go_wp2
        go_ret
        refine ⟨?_, rfl⟩
        have : s ∈ xs := by
          rw [← hxy, HX.out]; exact getD_mem_lt _ (by have := HA.out; omega)
        rw [← HR.out, (inn_iff xs s).2 this]; rfl
      · have hxy' : (x.toList == s.toList) = false := by rw [tx_eq]; simpa using hxy
        go_wp2
        go_round
        case rel =>
          refine ⟨k + 1, by omega, by go_num, ?_⟩
          show s ∉ xs.take (k + 1)
          rw [take_succ_getD xs k e0 (by have := HA.out; omega), ← HX.out]
          have := HT.out
          simp only [List.mem_append, List.mem_singleton, not_or]
          exact ⟨this, fun e => hxy e.symm⟩
        case measure => simp [intOf]; omega
    · go_wp2
      go_ret
      refine ⟨?_, rfl⟩
      have := HT.out
      rw [List.take_of_length_le (by have := HA.out; omega)] at this
      rw [← HR.out, inn_no this]; rfl

set_option maxRecDepth 10000 in
theorem rRising_any (w : World) (a : Option Addr) (n c : Nat) (xs : List Tx) (hn : n = xs.length) (hs : Sl TE w a c xs) (hf : ∀ s ∈ xs, s.size ≤ 140737488351232) :
    Calls Tryz.prog 87 #[.slice a n c] w fun e w' => e = .returned (.bool (mayK xs)) ∧ Keeps no w w' := by
  have HN : Hid (n = xs.length) := hn
  clear hn
  by_cases h0 : n = 0
  · subst h0
    have := mayK_none (l := xs) (by have := HN.out; omega)
    rw [this]
    go_enter Tryz.func87, Tryz.ntmps87
    go_wp2
    go_ret
    exact ⟨rfl, Keeps.refl _ _⟩
  by_cases h1 : 1024 < n
  · have := mayK_none (l := xs) (by have := HN.out; omega)
    rw [this]
    have h2 : (n : Int) > 1024 := by omega
    have h3 : ¬ (n : Int) < 1 := by omega
    clear h1
    go_enter Tryz.func87, Tryz.ntmps87
    go_wp2
    go_ret
    exact ⟨rfl, Keeps.refl _ _⟩
  have h2 : (n : Int) ≤ 1024 := by omega
  have h2b : decide ((1024 : Int) < n) = false := by simp; omega
  have h3 : ¬ (n : Int) < 1 := by omega
  have h3b : decide ((n : Int) < 1) = false := by simp; omega
  clear h1
  obtain ⟨R, hR⟩ : ∃ R, mayK xs = R := ⟨_, rfl⟩
  have HR : Hid (mayK xs = R) := hR
  rw [hR]
  clear hR
  go_enter Tryz.func87, Tryz.ntmps87
  go_wp2_with fail
  go_loopw [3] (fun i wr => ∃ k m : Nat, k ≤ n ∧ i = .int .i64 k ∧ wr = w.drewN m ∧ Hid ((∀ j, j < k → (xs.getD j e0).size ≤ 65535) ∧ ∀ j, j + 1 < k → lts (xs.getD j e0) (xs.getD (j + 1) e0) = true)) (fun i _ => n - (intOf i).toNat)
  case atStart => exact ⟨0, 0, by omega, rfl, rfl, fun j hj => absurd hj (Nat.not_lt_zero _), fun j hj => absurd hj (Nat.not_lt_zero _)⟩
  case round =>
    obtain ⟨k, m, hk, rfl, rfl, HT⟩ := hrel
    by_cases h4 : k < n
    · have hks : k < xs.length := by have := HN.out; omega
      have hsz := hf _ (getD_mem_lt e0 hks)
      have h4' : (k : Int) < n := by omega
      obtain ⟨b, off, rfl, d1⟩ := hs.at hks
      obtain ⟨x, hx⟩ : ∃ x, x = xs.getD k e0 := ⟨_, rfl⟩
      rw [← hx] at d1 hsz
      have HX : Hid (x = xs.getD k e0) := hx
      clear hx
      by_cases hl : 65535 < x.size
      · have hl2 : (65535 : Int) < (x.size : Int) := by omega
        have hl3 : decide ((65535 : Int) < (x.size : Int)) = true := decide_eq_true hl2
        have hl4 : decide (65535 < x.size) = true := decide_eq_true hl
        have := mayK_long hks (by rw [← HX.out]; exact hl)
        rw [HR.out] at this
        subst this
        go_wp2
        go_quiet (fail)
        go_wp2
        go_ret
        exact ⟨rfl, ((Keeps.refl _ _).drewN _).drewN _⟩
      · have hl2 : ¬ (65535 : Int) < (x.size : Int) := by omega
        have hl3 : decide ((65535 : Int) < (x.size : Int)) = false := decide_eq_false hl2
        have hl4 : decide (65535 < x.size) = false := decide_eq_false hl
        by_cases hk0 : k = 0
        · subst hk0
          rw [Nat.add_zero] at d1
          go_wp2
          go_quiet (fail)
          go_wp2
          go_roundw
          case rel =>
            refine ⟨1, _, by omega, by go_num, rfl, fun j hj => ?_, fun j hj => by omega⟩
            obtain rfl : j = 0 := by omega
            rw [← HX.out]; omega
          case measure => simp [intOf]; omega
        · obtain ⟨k', rfl⟩ : ∃ k', k = k' + 1 := ⟨k - 1, by omega⟩
          obtain ⟨b2, off2, e2, d2⟩ := hs.at (j := k') (by omega)
          cases e2
          obtain ⟨y, hy⟩ : ∃ y, y = xs.getD k' e0 := ⟨_, rfl⟩
          rw [← hy] at d2
          have HY : Hid (y = xs.getD k' e0) := hy
          clear hy
          have g6 : (0 : Int) < (k' : Int) + 1 := by omega
          have g7 : (k' : Int) + 1 - 1 = (k' : Int) := by omega
          have g8 : k' < n := by omega
          have j1 : (k' : Int) + 1 < n := by omega
          have j3 : (k' : Int) < n := by omega
          have j4 : IntKind.i64.wrap (k' : Int) = (k' : Int) := by rw [IntKind.wrap_i64]; omega
          cases hxy : Op.bytesLess y.toList x.toList
          · have := mayK_fall (l := xs) (k := k') hks (by rw [← HX.out, ← HY.out]; exact hxy)
            rw [HR.out] at this
            subst this
            go_wp2
            go_quiet (fail)
            go_wp2
            go_ret
            exact ⟨rfl, ((Keeps.refl _ _).drewN _).drewN _⟩
          · go_wp2
            go_quiet (fail)
            go_wp2
            go_roundw
            case rel =>
              refine ⟨k' + 1 + 1, _, by omega, by go_num, rfl, fun j hj => ?_, fun j hj => ?_⟩
              · by_cases e : j = k' + 1
                · subst e; rw [← HX.out]; omega
                · exact HT.out.1 j (by omega)
              · by_cases e : j = k'
                · subst e; rw [← HX.out, ← HY.out]; exact hxy
                · exact HT.out.2 j (by omega)
            case measure => simp [intOf]; omega
    · have hkn : k = n := by omega
      have := mayK_of (l := xs) (by have := HN.out; omega) (by have := HN.out; omega) (fun j hj => HT.out.1 j (by have := HN.out; omega)) (fun j hj => HT.out.2 j (by have := HN.out; omega))
      rw [HR.out] at this
      subst this
      go_wp2
      go_ret
      exact ⟨rfl, (Keeps.refl _ _).drewN _⟩

theorem kys_getD (l : List Pr) (j : Nat) (h : j < l.length) : (kys l).getD j e0 = (l.getD j p0).1 := by
  simp [kys, List.getD_eq_getElem?_getD, h]
theorem mayP_of {l : List Pr} {ks : List Tx} (h1 : 1 ≤ l.length) (hall : ∀ j, j < l.length → inn ks (l.getD j p0).1 = true ∧ (l.getD j p0).2.size ≤ 65535) (hr : ∀ j, j + 1 < l.length → lts (l.getD j p0).1 (l.getD (j + 1) p0).1 = true) : mayP l ks = true := by
  have e1 : (l.all fun p => decide (p.2.size ≤ 65535)) = true := by
    rw [List.all_eq_true]
    intro p hp
    obtain ⟨j, hj, rfl⟩ := List.getElem_of_mem hp
    have := (hall j hj).2
    simp [hj] at this
    simpa using this
  have e2 : rising lts (kys l) = true := rising_of_all (lt := lts) e0 _ (fun j hj => by
    rw [kys_length] at hj
    rw [kys_getD l j (by omega), kys_getD l (j + 1) hj]
    exact hr j hj)
  have e3 : (kys l).all (inn ks) = true := by
    rw [List.all_eq_true]
    intro k hk
    obtain ⟨p, hp, rfl⟩ := List.mem_map.1 hk
    obtain ⟨j, hj, rfl⟩ := List.getElem_of_mem hp
    have := (hall j hj).1
    simp [hj] at this
    exact this
  unfold mayP; rw [e1, e2, e3]; simp [h1]
theorem mayP_in {l : List Pr} {ks : List Tx} {j : Nat} (hj : j < l.length) (h : inn ks (l.getD j p0).1 = false) : mayP l ks = false := by
  have : (kys l).all (inn ks) = false := by
    rw [List.all_eq_false]
    exact ⟨(l.getD j p0).1, List.mem_map.2 ⟨_, getD_mem_lt p0 hj, rfl⟩, by simpa using h⟩
  unfold mayP; rw [this]; simp
theorem mayP_val {l : List Pr} {ks : List Tx} {j : Nat} (hj : j < l.length) (h : 65535 < (l.getD j p0).2.size) : mayP l ks = false := by
  have : (l.all fun p => decide (p.2.size ≤ 65535)) = false := by
    rw [List.all_eq_false]
    exact ⟨_, getD_mem_lt p0 hj, by simp at h ⊢; exact h⟩
  unfold mayP; rw [this]; simp
theorem mayP_rise {l : List Pr} {ks : List Tx} {j : Nat} (hj : j + 1 < l.length) (h : lts (l.getD j p0).1 (l.getD (j + 1) p0).1 = false) : mayP l ks = false := by
  have := rising_fail (lt := lts) e0 (kys l) j (by rw [kys_length]; exact hj) (by rw [kys_getD l j (by omega), kys_getD l (j + 1) hj]; exact h)
  unfold mayP; rw [this]; simp
theorem mayP_none {ks : List Tx} : mayP [] ks = false := by unfold mayP; simp
theorem may_1' {r : Rec} (h : r.kind = 1) (hi : 65536 ≤ r.id) : may r = (mayK r.keys && mayP r.pairs r.keys) := by
  unfold may
  rw [if_pos h, decide_eq_true hi]; rfl

set_option maxRecDepth 20000 in
set_option maxHeartbeats 4000000 in
theorem rMay_any (w : World) (k : Int) (i : Nat) (op : Option Addr) (np cp : Nat) (ok : Option Addr) (nk ck : Nat) (m : Rec) (h : IsC w ⟨k, i, op, np, cp, ok, nk, ck⟩ m) :
    Calls Tryz.prog 66 #[.agg #[.int .i64 k, .int .u64 (i : Nat), .slice op np cp, .slice ok nk ck]] w fun e w' => e = .returned (.bool (may m)) ∧ Keeps no w w' := by
  have H : Hid (IsC w ⟨k, i, op, np, cp, ok, nk, ck⟩ m) := h
  have hid : i < 18446744073709551616 := by have := h.fit.id; rw [← h.i] at this; exact this
  have lp : np ≤ 4398046511000 := by have := h.fit.plen; have h2 := h.np; simp only at h2; omega
  have lk : (nk : Int) ≤ 8796093022000 := by have := h.fit.klen; have h2 := h.nk; simp only at h2; omega
  have HNP : Hid (np = m.pairs.length) := h.np
  have HI : Hid (i = m.id) := h.i
  have HKD : Hid (k = m.kind) := h.k
  clear h
  obtain ⟨R, hR⟩ : ∃ R, may m = R := ⟨_, rfl⟩
  have HR : Hid (may m = R) := hR
  rw [hR]
  clear hR
  have hk0 : Keeps no w (w.alloc (.cells #[.int .i64 k, .int .u64 (i : Nat), .slice op np cp, .slice ok nk ck] 41)) := (Keeps.refl _ _).alloc _
  by_cases hlow : i < 65536
  · have hlow2 : (i : Int) < 65536 := by omega
    have : R = false := by rw [← HR.out]; exact may_low (by rw [← HI.out]; exact hlow)
    subst this
    go_enter Tryz.func66, Tryz.ntmps66
    go_wp2_with fail
    go_ret
    exact ⟨rfl, hk0⟩
  have hlow2 : ¬ (i : Int) < 65536 := by omega
  have HLOW : Hid (65536 ≤ m.id) := by show 65536 ≤ m.id; have := HI.out; omega
  by_cases hk2 : k = 2
  · subst hk2
    have hm := may_2 (r := m) HKD.out.symm HLOW.out
    rw [HR.out] at hm
    have HM : Hid (R = (decide (np = 0) && decide (nk = 0))) := by
      show _ = _
      have e1 := H.out.np; have e2 := H.out.nk
      simp only at e1 e2
      rw [hm, e1, e2]
    clear hm
    by_cases h3 : np = 0
    · by_cases h4 : nk = 0
      · subst h3; subst h4
        go_enter Tryz.func66, Tryz.ntmps66
        go_wp2_with fail
        go_ret
        exact ⟨by rw [HM.out]; rfl, hk0⟩
      · have h4' : ((nk : Int) == 0) = false := by simp; omega
        subst h3
        have : R = false := by rw [HM.out]; simp [h4]
        subst this
        go_enter Tryz.func66, Tryz.ntmps66
        go_wp2_with fail
        go_ret
        exact ⟨rfl, hk0⟩
    · have h3' : ((np : Int) == 0) = false := by simp; omega
      have : R = false := by rw [HM.out]; simp [h3]
      subst this
      go_enter Tryz.func66, Tryz.ntmps66
      go_wp2_with fail
      go_ret
      exact ⟨rfl, hk0⟩
  have hk2b : (k == 2) = false := by simpa using hk2
  by_cases hk1 : k = 1
  case neg =>
    have hk1b : (k == 1) = false := by simpa using hk1
    have : R = false := by rw [← HR.out]; exact may_else (by rw [← HKD.out]; exact hk1) (by rw [← HKD.out]; exact hk2)
    subst this
    go_enter Tryz.func66, Tryz.ntmps66
    go_wp2_with fail
    go_ret
    exact ⟨rfl, hk0⟩
  subst hk1
  have hm := may_1' (r := m) HKD.out.symm HLOW.out
  rw [HR.out] at hm
  have HR : Hid ((mayK m.keys && mayP m.pairs m.keys) = R) := hm.symm
  clear hm hk2 hk2b
  go_enter Tryz.func66, Tryz.ntmps66
  go_wp2_with fail
  refine (rRising_any _ ok nk ck m.keys H.out.nk (H.out.kys.keepsN hk0) H.out.fit.keys).mono ?_
  rintro e w2 ⟨rfl, hk2⟩
  have hb2 := hk2.at (blk_new w _) (fun h => h)
  have HB2 : Hid (w2.heap[w.heap.size]? = some (.cells #[.int .i64 1, .int .u64 (i : Nat), .slice op np cp, .slice ok nk ck] 41 (0, 0))) := hb2
  obtain ⟨A, hA⟩ : ∃ A, A = w.heap.size := ⟨_, rfl⟩
  have hk02 := hk0.trans hk2
  by_cases g2 : mayK m.keys = true
  case neg =>
    have g2' : mayK m.keys = false := by simpa using g2
    rw [g2']
    clear hA
    go_wp2
    go_ret
    exact ⟨by rw [← HR.out, g2', Bool.false_and]; rfl, hk02⟩
  rw [g2]
  rw [g2, Bool.true_and] at HR
  rw [← hA] at HB2 hb2 ⊢
  clear hA
  obtain ⟨x0, x1, x2, x3⟩ := cells4 hb2
  clear hb2
  by_cases g3 : np = 0
  · subst g3
    go_wp2
    go_ret
    refine ⟨?_, hk02⟩
    rw [← HR.out, len0 HNP.out.symm, mayP_none]; rfl
  have g3' : ¬ (np : Int) < 1 := by omega
  have g3b : decide ((np : Int) < 1) = false := by simp; omega
  go_wp2_with fail
  go_loopw [3] (fun j wr => ∃ t : Nat, t ≤ np ∧ j = .int .i64 t ∧ Hid ((∀ j, j < t → inn m.keys (m.pairs.getD j p0).1 = true ∧ (m.pairs.getD j p0).2.size ≤ 65535) ∧ ∀ j, j + 1 < t → lts (m.pairs.getD j p0).1 (m.pairs.getD (j + 1) p0).1 = true) ∧ Keeps no w2 wr) (fun j _ => np - (intOf j).toNat)
  case atStart => exact ⟨0, by omega, rfl, ⟨fun j hj => absurd hj (Nat.not_lt_zero _), fun j hj => absurd hj (Nat.not_lt_zero _)⟩, Keeps.refl _ _⟩
  case round =>
    obtain ⟨t, ht, rfl, HT, hkr⟩ := hrel
    clear x0 x1 x2 x3
    have hkr0 := hk02.trans hkr
    by_cases h2 : t < np
    · have hta : t < m.pairs.length := by rw [← HNP.out]; exact h2
      have h2' : (t : Int) < np := by omega
      obtain ⟨b1, off1, e1, d1, d2⟩ := (H.out.prs.keepsN hkr0).atP hta
      simp only at e1
      subst e1
      have hps := (H.out.fit.pairs _ (getD_mem_lt p0 hta)).2
      have HTA : Hid (t < m.pairs.length) := hta
      rcases hx : m.pairs.getD t p0 with ⟨u1, u2⟩
      rw [hx] at d1 d2 hps
      simp only at d1 d2 hps
      have HX : Hid (m.pairs.getD t p0 = (u1, u2)) := hx
      have hA := hkr.at HB2.out (fun h => h)
      have HKK : Hid (∀ wz, Keeps no w wz → Calls Tryz.prog 88 #[.slice ok nk ck, .string u1] wz fun e w' => e = .returned (.bool (inn m.keys u1)) ∧ w' = wz) := fun wz hz => rHas_any wz ok nk ck m.keys u1 H.out.nk lk (H.out.kys.keepsN hz)
      obtain ⟨x0, x1, x2, x3⟩ := cells4 hA
      have hA' := blk_alloc hA (.cells #[.string u1, .string u2] 102)
      obtain ⟨y0, y1, y2, y3⟩ := cells4 hA'
      have e1 : (wr.alloc (.cells #[.string u1, .string u2] 102)).cell? ⟨b1, off1 + t * 2, none⟩ = some (.string u1) := ((Keeps.refl no wr).alloc _).cellN d1
      have kz := (hkr0.alloc (.cells #[.string u1, .string u2] 102))
      have HKZ : Hid (Keeps no w (wr.alloc (.cells #[.string u1, .string u2] 102))) := kz
      clear hx hta hA hA' kz
      obtain ⟨IB, hIB⟩ : ∃ B, B = inn m.keys u1 := ⟨_, rfl⟩
      rw [← hIB] at HKK
      have HIB : Hid (IB = inn m.keys u1) := hIB
      clear hIB
      by_cases g4 : u2.size ≤ 65535
      case neg =>
        have g4' : (65535 : Int) < (u2.size : Int) := by omega
        have g4a : decide ((65535 : Int) < (u2.size : Int)) = true := decide_eq_true g4'
        have g4b : decide (65535 < u2.size) = true := decide_eq_true (by omega)
        go_wp2_with fail
        go_quiet ((go_at_call 88; exact Calls.quiet_of_same (HKK.out _ (HKZ.out.drewN _))))
        go_wp2
        go_ret
        refine ⟨?_, HKZ.out.drewN _⟩
        rw [← HR.out, mayP_val HTA.out (by rw [HX.out]; simp only; omega)]; rfl
      have g4' : ¬ (65535 : Int) < (u2.size : Int) := by omega
      have g4a : decide ((65535 : Int) < (u2.size : Int)) = false := decide_eq_false g4'
      have g4b : decide (65535 < u2.size) = false := decide_eq_false (by omega)
      cases IB with
      | false =>
        go_wp2_with fail
        go_quiet ((go_at_call 88; exact Calls.quiet_of_same (HKK.out _ (HKZ.out.drewN _))))
        go_wp2
        go_ret
        refine ⟨?_, HKZ.out.drewN _⟩
        rw [← HR.out, mayP_in HTA.out (by rw [HX.out]; exact HIB.out.symm)]; rfl
      | true =>
        by_cases g5 : t = 0
        · subst g5
          simp only [Nat.zero_mul, Nat.add_zero] at d1 d2 e1
          go_wp2_with fail
          go_quiet ((go_at_call 88; exact Calls.quiet_of_same (HKK.out _ (HKZ.out.drewN _))))
          go_wp2
          go_roundw
          case rel =>
            refine ⟨1, by omega, by go_num, ⟨fun j hj => ?_, fun j hj => by omega⟩, (hkr.alloc _).drewN _⟩
            obtain rfl : j = 0 := by omega
            rw [HX.out]; exact ⟨HIB.out.symm, g4⟩
          case measure => simp [intOf]; omega
        · obtain ⟨T, rfl⟩ : ∃ T, t = T + 1 := ⟨t - 1, by omega⟩
          obtain ⟨b2, off2, eb, d3, d4⟩ := (H.out.prs.keepsN hkr0).atP (j := T) (by have := HTA.out; omega)
          cases eb
          rcases hy : m.pairs.getD T p0 with ⟨v1, v2⟩
          rw [hy] at d3 d4
          simp only at d3 d4
          have HY : Hid (m.pairs.getD T p0 = (v1, v2)) := hy
          have e3 : (wr.alloc (.cells #[.string u1, .string u2] 102)).cell? ⟨b1, off1 + T * 2, none⟩ = some (.string v1) := ((Keeps.refl no wr).alloc _).cellN d3
          clear hy
          have g6 : (0 : Int) < (T : Int) + 1 := by omega
          have g7 : (T : Int) + 1 - 1 = (T : Int) := by omega
          have g8 : T < np := by omega
          have j1 : (T : Int) + 1 < np := by omega
          have j2 : (np : Int) ≤ 4398046511000 := by omega
          have j3 : (T : Int) < np := by omega
          have j4 : IntKind.i64.wrap (T : Int) = (T : Int) := by rw [IntKind.wrap_i64]; omega
          by_cases g9 : lts v1 u1 = true
          · have g9' : Op.bytesLess v1.toList u1.toList = true := g9
            have G9 : Hid (lts v1 u1 = true) := g9
            clear g9
            go_wp2_with fail
            go_quiet ((go_at_call 88; exact Calls.quiet_of_same (HKK.out _ (HKZ.out.drewN _))))
            go_wp2
            go_roundw
            case rel =>
              refine ⟨T + 2, by omega, by go_num, ⟨fun j hj => ?_, fun j hj => ?_⟩, (hkr.alloc _).drewN _⟩
              · by_cases e : j = T + 1
                · subst e; rw [HX.out]; exact ⟨HIB.out.symm, g4⟩
                · exact HT.out.1 j (by omega)
              · by_cases e : j = T
                · subst e; rw [HX.out, HY.out]; exact G9.out
                · exact HT.out.2 j (by omega)
            case measure => simp [intOf]; omega
          · have g9' : Op.bytesLess v1.toList u1.toList = false := by have := g9; unfold lts at this; simpa using this
            have G9 : Hid (lts v1 u1 = false) := g9'
            clear g9
            go_wp2_with fail
            go_quiet ((go_at_call 88; exact Calls.quiet_of_same (HKK.out _ (HKZ.out.drewN _))))
            go_wp2
            go_ret
            refine ⟨?_, HKZ.out.drewN _⟩
            rw [← HR.out, mayP_rise (j := T) HTA.out (by rw [HX.out, HY.out]; exact G9.out)]; rfl
    · have hA := hkr.at HB2.out (fun h => h)
      obtain ⟨x0, x1, x2, x3⟩ := cells4 hA
      clear hA
      go_wp2
      go_ret
      refine ⟨?_, hkr0⟩
      have hnp := HNP.out
      rw [← HR.out, mayP_of (by omega) (fun j hj => HT.out.1 j (by omega)) (fun j hj => HT.out.2 j (by omega))]; rfl
end Go.Proofs.YtgamhblkgojapaaGreatDoor
/- The document's number, text, checksum. -/
namespace Go.Proofs.YtgamhblkgojapaaGreatDoor
open Go.RowKit Go.Sort Orl Pk
set_option linter.unusedVariables false
set_option linter.unusedSimpArgs false

theorem num_getD : ∀ (K v d : Nat), d < K → (num K v).getD d 0 = v / 2 ^ (8 * (K - 1 - d)) % 256
  | 0, v, d, h => by omega
  | k + 1, v, d, h => by
    unfold num
    by_cases hd : d < k
    · have ih := num_getD k (v / 256) d hd
      simp only [List.getD_eq_getElem?_getD] at ih ⊢
      rw [List.getElem?_append_left (by rw [num_length]; exact hd), ih, Nat.div_div_eq_div_mul, show (256 : Nat) = 2 ^ 8 from rfl, ← Nat.pow_add, show 8 + 8 * (k - 1 - d) = 8 * (k + 1 - 1 - d) by omega]
    · have : d = k := by omega
      subst this
      simp only [List.getD_eq_getElem?_getD]
      rw [List.getElem?_append_right (by rw [num_length]; exact Nat.le_refl _), num_length, Nat.sub_self]
      simp
theorem num_byte (K v d I : Nat) (hd : d < K) (hI : I = K - 1 - d) : ((v : Int) / 2 ^ (8 * I)) % 256 = (((num K v).getD d 0 : Nat) : Int) := by
  rw [num_getD K v d hd, hI]
  simp
theorem owns_lit (w : World) (X : List Nat) (hx : X.length ≤ 1000) : Owns (w.alloc (.cells (vals X).toArray 5)) (some ⟨w.heap.size, 0, none⟩) X.length X :=
  ⟨by simp [vals], .inr ⟨w.heap.size, X.length, (vals X).toArray, rfl, Nat.zero_le _, blk_new w _, Nat.le_refl _, by unfold maxLen; omega, by simp [vals], by simp only [vals, List.toList_toArray]; rw [Nat.mul_one]; exact List.take_of_length_le (by simp)⟩⟩

set_option maxRecDepth 10000 in
theorem dNumber_any (w : World) (o : Option Addr) (n c : Nat) (bs : List Nat) (v K : Nat) (hn : n = bs.length) (hown : Owns w o c bs) (hnb : (n : Int) ≤ 1000000000) (hv : v < 18446744073709551616) (hK : K ≤ 8) :
    Calls Tryz.prog 69 #[.slice o n c, .int .u64 (v : Nat), .int .i64 (K : Nat)] w (AppTo w o (bs ++ num K v)) := by
  have HN : Hid (n = bs.length) := hn
  have hK' : (K : Int) ≤ 8 := by omega
  clear hn
  go_enter Tryz.func69, Tryz.ntmps69
  go_wp2_with fail
  go_loopw [0, 7] (fun s i wr => ∃ (oo : Option Addr) (mm cc d : Nat) (z : Int), s = .slice oo mm cc ∧ i = .int .i64 z ∧ d ≤ K ∧ Hid (z = (K : Int) - 1 - d ∧ mm = n + d) ∧ -1 ≤ z ∧ z ≤ 8 ∧ (mm : Int) ≤ 1000000008 ∧ Hid (Owns wr oo cc (bs ++ (num K v).take d) ∧ Fresh w o oo ∧ Keeps (inO o) w wr)) (fun _ i _ => (1 + intOf i).toNat)
  case atStart => exact ⟨o, n, c, 0, _, rfl, rfl, by omega, ⟨by omega, by omega⟩, by omega, by omega, by omega, ⟨by simpa using hown, .inl rfl, Keeps.refl _ _⟩⟩
  case round =>
    rename World => wq
    obtain ⟨oo, mm, cc, d, z, rfl, rfl, hd, HZ, hz1, hz8, hmm, HO⟩ := hrel
    by_cases hz : 0 ≤ z
    · obtain ⟨I, rfl⟩ : ∃ I : Nat, z = (I : Int) := ⟨z.toNat, by omega⟩
      have hz' : (I : Int) ≥ 0 := hz
      have hdK : d < K := by have := HZ.out.1; omega
      have hby := num_byte K v d I hdK (by have := HZ.out.1; omega)
      obtain ⟨B, hB⟩ : ∃ B, B = (num K v).getD d 0 := ⟨_, rfl⟩
      rw [← hB] at hby
      have HB : Hid (B = (num K v).getD d 0 ∧ d < K ∧ B < 256) := ⟨hB, hdK, by rw [hB]; exact getD_lt' _ (num_lt K v) d (by rw [num_length]; exact hdK)⟩
      have HML : Hid (mm = (bs ++ (num K v).take d).length) := by show _ = _; rw [List.length_append, List.length_take, num_length, HZ.out.2, HN.out]; omega
      have HLT : Hid (BRow (wq.alloc (.cells #[.int .u8 (B : Nat)] 5)) (some ⟨wq.heap.size, 0, none⟩) [B]) := row_lit wq [B] (by intro x hx; rw [List.mem_singleton.1 hx]; exact HB.out.2.2) (by simp)
      clear hB hdK
      go_wp2_with (at_builtin; go_must (refine wpList_appB rfl _ _ rfl oo mm cc (bs ++ (num K v).take d) rfl HML.out (HO.out.1.keeps ((Keeps.refl no wq).alloc _) (fun _ _ h => h)) _ 1 1 [B] rfl rfl (fun e => by cases e) HLT.out (by omega) ?_); intro o' c' w' ho hfr hk)
      go_roundw
      case rel =>
        have h3 := HO.out
        refine ⟨o', mm + 1, c', d + 1, _, rfl, rfl, by have := HB.out.2.1; omega, ⟨by have := HZ.out.1; omega, by have := HZ.out.2; omega⟩, by omega, by omega, by have := HZ.out; have := HB.out.2.1; omega, ⟨?_, ?_, ?_⟩⟩
        · have e : (num K v).take (d + 1) = (num K v).take d ++ [B] := by rw [HB.out.1]; exact take_succ_getD _ d 0 (by rw [num_length]; exact HB.out.2.1)
          rw [e, ← List.append_assoc]
          exact ho
        · exact h3.2.1.trans (hfr.old (by simp)) h3.2.2.size
        · refine (h3.2.2.alloc _).then hk (fun j hj => ?_)
          rcases h3.2.1.in j hj with h | h
          · exact .inl h
          · exact .inr h
      case measure => simp [intOf]; omega
    · have hz' : ¬ z ≥ 0 := hz
      have hdK : d = K := by have := HZ.out.1; omega
      go_wp2_with fail
      go_ret
      have h3 := HO.out
      refine ⟨oo, cc, mm, rfl, ?_, ?_, h3.2.1, h3.2.2⟩
      · show _ = _; rw [List.length_append, num_length, HZ.out.2, HN.out, hdK]
      · rw [hdK, List.take_of_length_le (by rw [num_length]; exact Nat.le_refl _)] at h3; exact h3.1

set_option maxRecDepth 10000 in
theorem dText_any (w : World) (o : Option Addr) (n c : Nat) (bs : List Nat) (s : Tx) (hn : n = bs.length) (hown : Owns w o c bs) (hnb : (n : Int) ≤ 900000000) (hs : s.size ≤ 65535) :
    Calls Tryz.prog 89 #[.slice o n c, .string s] w (AppTo w o (bs ++ txt (nats s))) := by
  have HN : Hid (n = bs.length) := hn
  have hs1 : (s.size : Int) ≤ 65535 := by omega
  clear hn
  go_enter Tryz.func89, Tryz.ntmps89
  go_wp2_with fail
  refine (dNumber_any w o n c bs s.size 4 HN.out hown (by omega) (by omega) (by omega)).mono ?_
  rintro e w1 ⟨o1, c1, n1, rfl, hn1, hown1, hfr1, hk1⟩
  have HO1 : Hid (Owns w1 o1 c1 (bs ++ num 4 s.size) ∧ Fresh w o o1 ∧ Keeps (inO o) w w1) := ⟨hown1, hfr1, hk1⟩
  have hn1b : (n1 : Int) ≤ 900000004 := by have := hn1.out; rw [List.length_append, num_length, ← HN.out] at this; omega
  clear hown1 hfr1 hk1
  go_wp2_with (at_builtin; go_must (refine wpList_appS rfl _ _ rfl o1 n1 c1 (bs ++ num 4 s.size) rfl hn1.out HO1.out.1 s rfl (by omega) ?_); intro o2 c2 w2 ho2 hfr2 hk2)
  go_ret
  have h1 := HO1.out
  refine ⟨o2, c2, n1 + s.size, rfl, ?_, ?_, h1.2.1.trans hfr2 h1.2.2.size, h1.2.2.then hk2 (fun j hj => ?_)⟩
  · show _ = _; rw [hn1.out]; unfold txt; simp only [List.length_append, num_length, nats_length]; omega
  · unfold txt; rw [nats_length, ← List.append_assoc]; exact ho2
  · rcases h1.2.1.in j hj with h | h
    · exact .inl h
    · exact .inr h

theorem sub_xor (s : Nat) (hs : s < 4294967296) : 4294967295 - s = s ^^^ 4294967295 := by
  have h1 := u32_xor_nat s 4294967295 hs (by decide)
  apply Nat.eq_of_testBit_eq
  intro j
  have := Nat.testBit_two_pow_sub_succ (x := s) (n := 32) hs j
  rw [Nat.testBit_xor, show (4294967295 : Nat) = 2 ^ 32 - 1 from rfl, Nat.testBit_two_pow_sub_one]
  rw [show 2 ^ 32 - 1 - s = 2 ^ 32 - (s + 1) by omega, this]
  by_cases hj : j < 32
  · simp [hj]
  · simp [hj]
    exact Nat.testBit_lt_two_pow (Nat.lt_of_lt_of_le hs (Nat.pow_le_pow_right (n := 2) (by decide) (by omega : 32 ≤ j)))
theorem sh_odd (r : Nat) (hr : r < 4294967296) (h : r % 2 = 1) : bits .xor .u32 ((r : Int) / 2) 3988292384 = (Crc.sh r : Nat) := by
  have e1 : (r : Int) / 2 = ((r / 2 : Nat) : Int) := by omega
  rw [e1]
  have := u32_xor_nat (r / 2) 3988292384 (by omega) (by decide)
  unfold Crc.sh
  rw [h, Nat.one_mul]
  exact this
theorem sh_even (r : Nat) (h : r % 2 = 0) : ((r : Int) / 2) = (Crc.sh r : Nat) := by
  unfold Crc.sh; rw [h]; simp

set_option maxRecDepth 10000 in
theorem dCrc_any (w : World) (a : Option Addr) (n c : Nat) (bs : List Nat) (hn : n = bs.length) (hr : BRow w a bs) :
    Calls Tryz.prog 70 #[.slice a n c] w fun e w' => e = .returned (.int .u32 (Crc.sum bs : Nat)) ∧ w' = w := by
  obtain ⟨hby, hm, hcell⟩ := hr
  rw [← hn] at hm hcell
  have HN : Hid (n = bs.length) := hn
  have hmI : (n : Int) ≤ 9223372036854775807 := by omega
  clear hn hm
  go_enter Tryz.func70, Tryz.ntmps70
  go_wp2_with fail
  go_loop [3, 4, 5] (fun r i _ => ∃ k : Nat, k ≤ n ∧ i = .int .i64 k ∧ r = .int .u32 (Crc.upd 4294967295 (bs.take k) : Nat)) (fun _ i _ => n - (intOf i).toNat)
  case atStart => exact ⟨0, by omega, rfl, rfl⟩
  case round =>
    obtain ⟨k, hk, rfl, rfl⟩ := hrel
    have hrl := Crc.upd_lt (bs.take k) (fun c hc => hby c (List.mem_of_mem_take hc)) 4294967295 (by decide)
    obtain ⟨r, hr⟩ : ∃ r, r = Crc.upd 4294967295 (bs.take k) := ⟨_, rfl⟩
    rw [← hr] at hrl ⊢
    have HR : Hid (r = Crc.upd 4294967295 (bs.take k)) := hr
    clear hr
    by_cases h2 : k < n
    · have h2' : (k : Int) < n := by omega
      have hkb : k < bs.length := by have := HN.out; omega
      have hcl := getD_lt' bs hby k hkb
      have hsn := upd_snoc 4294967295 bs k hkb
      rcases hcell with h0 | ⟨b, off, rfl, hc⟩
      · rw [h0] at hkb; simp at hkb
      obtain ⟨x, hxx⟩ : ∃ x, x = bs.getD k 0 := ⟨_, rfl⟩
      have hck := hc k h2
      rw [← hxx] at hcl hsn hck
      have HS : Hid (Crc.upd 4294967295 (bs.take (k + 1)) = Crc.shn 8 (Crc.upd 4294967295 (bs.take k) ^^^ x)) := hsn
      have hmix := mix_num r x hrl hcl
      have hxl := Crc.xor_lt32 r x hrl (by omega)
      clear hsn hxx hby hkb hc
      go_wp2_with fail
      go_loop [3, 5] (fun y j => ∃ q : Nat, q ≤ 8 ∧ j = .int .i64 q ∧ y = .int .u32 (Crc.shn q (r ^^^ x) : Nat)) (fun _ j => 8 - (intOf j).toNat)
      case atStart => exact ⟨0, by omega, rfl, rfl⟩
      case round =>
        obtain ⟨q, hq, rfl, rfl⟩ := hrel
        have hyl := Crc.shn_lt q (r ^^^ x) hxl
        obtain ⟨y, hy⟩ : ∃ y, y = Crc.shn q (r ^^^ x) := ⟨_, rfl⟩
        rw [← hy] at hyl ⊢
        have HY : Hid (y = Crc.shn q (r ^^^ x)) := hy
        clear hy
        by_cases hq8 : q < 8
        · have hq8' : (q : Int) < 8 := by omega
          by_cases hodd : y % 2 = 1
          · have ho := sh_odd y hyl hodd
            have hm1 : ((y : Int) % 2) = 1 := by omega
            clear hodd
            go_wp2_with fail
            go_round
            case rel => exact ⟨q + 1, by omega, by go_num, by rw [HY.out]; rfl⟩
            case measure => simp [intOf]; omega
          · have he : y % 2 = 0 := by omega
            have HE : Hid (((y : Int) / 2) = (Crc.sh y : Nat)) := sh_even y he
            have hm1 : ((y : Int) % 2) = 0 := by omega
            clear hodd he
            go_wp2_with fail
            go_round
            case rel => exact ⟨q + 1, by omega, by go_num, by rw [HE.out, HY.out]; rfl⟩
            case measure => simp [intOf]; omega
        · have hq8' : ¬ (q : Int) < 8 := by omega
          have hqe : q = 8 := by omega
          go_wp2_with fail
          go_round
          case rel => exact ⟨k + 1, by omega, by go_num, by rw [HY.out, hqe, HS.out, HR.out]⟩
          case measure => simp [intOf]; omega
    · have h2' : ¬ (k : Int) < n := by omega
      have hs := sub_xor r hrl
      have hs' : (4294967295 : Int) - (r : Int) = ((r ^^^ 4294967295 : Nat) : Int) := by rw [← hs]; omega
      clear hs
      go_wp2_with fail
      go_ret
      obtain rfl : k = n := by omega
      refine ⟨ret_u32 ?_, rfl⟩
      rw [HR.out, HN.out, List.take_length]
      unfold Crc.sum Crc.update
      rw [Nat.zero_xor]
end Go.Proofs.YtgamhblkgojapaaGreatDoor
/- The document's payload, length, Build. -/
namespace Go.Proofs.YtgamhblkgojapaaGreatDoor
open Go.RowKit Go.Sort Orl Pk
set_option linter.unusedVariables false
set_option linter.unusedSimpArgs false

theorem layP_le {B : Nat} : ∀ (P : List Pr), (∀ p ∈ P, p.1.size + p.2.size ≤ B) → (layP P).length ≤ P.length * (8 + B)
  | [], _ => by simp [layP]
  | p :: P, h => by
    have ih := layP_le P (fun q hq => h q (List.mem_cons_of_mem _ hq))
    have h0 := h p List.mem_cons_self
    show (layP1 p ++ layP P).length ≤ _
    rw [List.length_append, List.length_cons, Nat.add_mul]
    unfold layP1
    rw [List.length_append, txt_length, txt_length, nats_length, nats_length]
    omega
theorem layP_snoc (l : List Pr) (k : Nat) (hk : k < l.length) : layP (l.take (k + 1)) = layP (l.take k) ++ (txt (nats (l.getD k p0).1) ++ txt (nats (l.getD k p0).2)) := by
  rw [take_succ_getD l k p0 hk]; simp [layP, layP1]
/-- bounds of a record's parts -/
theorem pairs_big {r : Rec} (h1 : mayK r.keys = true) (h2 : mayP r.pairs r.keys = true) (q : Nat) : (layP (r.pairs.take q)).length ≤ 134223872 := by
  obtain ⟨p1, _, p3⟩ := mayP_all h1 h2
  have h := layP_le (B := 131070) (r.pairs.take q) (fun p hp => by have := p3 p (List.mem_of_mem_take hp); omega)
  have hl : (r.pairs.take q).length ≤ 1024 := by rw [List.length_take]; omega
  have : (r.pairs.take q).length * (8 + 131070) ≤ 1024 * (8 + 131070) := Nat.mul_le_mul_right _ hl
  omega
theorem keys_big {r : Rec} (h1 : mayK r.keys = true) (q : Nat) : (txtsBody (natss (r.keys.take q))).length ≤ 67111936 := by
  obtain ⟨p1, _, p3, _⟩ := mayK_all h1
  rw [txtsBody_length]
  exact Txs.all ⟨by rw [List.length_take]; omega, fun s hs => p3 s (List.mem_of_mem_take hs)⟩
/-- bytes of the call's own, so far -/
structure Hs (w0 : World) (o : Option Addr) (n c : Nat) (X : List Nat) (W : World) : Prop where
  own : Owns W o c X
  n : n = X.length
  new : New w0 o
  kp : Keeps no w0 W
theorem Hs.app {w0 : World} {o : Option Addr} {n c : Nat} {X : List Nat} {W W' : World} (h : Hs w0 o n c X W) {Y : List Nat} {o' : Option Addr} {n' c' : Nat} (hn : n' = Y.length) (ho : Owns W' o' c' Y) (hf : Fresh W o o') (hk : Keeps (inO o) W W') : Hs w0 o' n' c' Y W' :=
  ⟨ho, hn, (hf.new hk h.new h.kp).1, (hf.new hk h.new h.kp).2⟩
def px (r : Rec) : List Nat := num 1 1 ++ (num 8 r.id ++ num 4 r.pairs.length)
theorem px_length (r : Rec) : (px r).length = 13 := by unfold px; simp only [List.length_append, num_length]
theorem body_1 {r : Rec} (h : r.kind = 1) : body r = px r ++ layP r.pairs ++ num 4 r.keys.length ++ txtsBody (natss r.keys) := by
  unfold body layF px txts
  rw [if_pos h, h]
  simp [natss, List.append_assoc]
theorem body_2 {r : Rec} (h : r.kind = 2) : body r = num 1 2 ++ num 8 r.id := by
  unfold body layF
  rw [if_neg (by rw [h]; decide), h]
  simp

set_option maxRecDepth 20000 in
set_option maxHeartbeats 2000000 in
theorem dPayload_any (w : World) (k : Int) (i : Nat) (op : Option Addr) (np cp : Nat) (ok : Option Addr) (nk ck : Nat) (r : Rec) (h : IsC w ⟨k, i, op, np, cp, ok, nk, ck⟩ r) (hm : may r = true) :
    Calls Tryz.prog 68 #[.agg #[.int .i64 k, .int .u64 (i : Nat), .slice op np cp, .slice ok nk ck]] w (OwnTo w (body r)) := by
  have H : Hid (IsC w ⟨k, i, op, np, cp, ok, nk, ck⟩ r) := h
  have hi : i < 18446744073709551616 := by have := h.fit.id; rw [← h.i] at this; exact this
  have HI : Hid (i = r.id) := h.i
  have hp := (may_parts hm).2
  have HKD : Hid (k = r.kind) := h.k
  have k0 : Keeps no w (w.alloc (.cells #[.int .i64 k, .int .u64 (i : Nat), .slice op np cp, .slice ok nk ck] 41)) := (Keeps.refl _ _).alloc _
  have HK0 : Hid (Keeps no w (w.alloc (.cells #[.int .i64 k, .int .u64 (i : Nat), .slice op np cp, .slice ok nk ck] 41))) := k0
  have hb0 := blk_new w (.cells #[.int .i64 k, .int .u64 (i : Nat), .slice op np cp, .slice ok nk ck] 41)
  clear h hm k0
  rcases hp with ⟨hk, hK, hP⟩ | ⟨hk, hps, hks⟩
  · rw [← HKD.out] at hk
    subst hk
    obtain ⟨q1, q2, q3, _⟩ := mayK_all hK
    obtain ⟨p1, p2, p3⟩ := mayP_all hK hP
    have HNP : Hid (np = r.pairs.length) := H.out.np
    have HNK : Hid (nk = r.keys.length) := H.out.nk
    have hnp : (np : Int) ≤ 1024 := by have := HNP.out; omega
    have hnk : (nk : Int) ≤ 1024 := by have := HNK.out; omega
    have HPX : Hid ((∀ p ∈ r.pairs, p.1.size ≤ 65535 ∧ p.2.size ≤ 65535) ∧ (∀ s ∈ r.keys, s.size ≤ 65535)) := ⟨p3, q3⟩
    have HBP : Hid (∀ q, (layP (r.pairs.take q)).length ≤ 134223872) := pairs_big hK hP
    have HBK : Hid (∀ q, (txtsBody (natss (r.keys.take q))).length ≤ 67111936) := keys_big hK
    clear hK hP q1 q2 q3 p1 p2 p3
    have HL0 : Hid (Hs (w.alloc (.cells #[.int .i64 1, .int .u64 (i : Nat), .slice op np cp, .slice ok nk ck] 41)) (some ⟨w.heap.size + 1, 0, none⟩) 1 1 (num 1 1) ((w.alloc (.cells #[.int .i64 1, .int .u64 (i : Nat), .slice op np cp, .slice ok nk ck] 41)).alloc (.cells #[.int .u8 1] 5))) := by
      have e1 : (w.alloc (.cells #[.int .i64 1, .int .u64 (i : Nat), .slice op np cp, .slice ok nk ck] 41)).heap.size = w.heap.size + 1 := by simp
      have := owns_lit (w.alloc (.cells #[.int .i64 1, .int .u64 (i : Nat), .slice op np cp, .slice ok nk ck] 41)) (num 1 1) (by simp [num_length])
      rw [e1] at this
      exact ⟨this, rfl, new_fresh _ _ (by rw [e1]; exact Nat.le_refl _) _, (Keeps.refl _ _).alloc _⟩
    have HB0 : Hid ((w.alloc (.cells #[.int .i64 1, .int .u64 (i : Nat), .slice op np cp, .slice ok nk ck] 41)).heap[w.heap.size]? = some (.cells #[.int .i64 1, .int .u64 (i : Nat), .slice op np cp, .slice ok nk ck] 41 (0, 0))) := hb0
    clear hb0
    go_enter Tryz.func68, Tryz.ntmps68
    go_wp2_with fail
    refine (dNumber_any _ _ 1 1 (num 1 1) i 8 HL0.out.n HL0.out.own (by omega) hi (by omega)).mono ?_
    rintro e w2 ⟨o2, c2, n2, rfl, hn2, hown2, hfr2, hk2⟩
    generalize hW0 : w.alloc (.cells #[.int .i64 1, .int .u64 (i : Nat), .slice op np cp, .slice ok nk ck] 41) = W0 at HK0 HL0 HB0
    have H2 : Hid (Hs W0 o2 n2 c2 (num 1 1 ++ num 8 i) w2) := by
      have h3 := HL0.out
      subst hW0
      exact h3.app hn2.out hown2 hfr2 hk2
    clear hown2 hfr2 hk2 HL0 hW0
    obtain ⟨A, hA⟩ : ∃ A, A = w.heap.size := ⟨_, rfl⟩
    rw [← hA] at HB0 ⊢
    clear hA
    obtain ⟨x0, x1, x2, x3⟩ := cells4 (H2.out.kp.at HB0.out (fun h => h))
    have hn2b : (n2 : Int) ≤ 9 := by have := H2.out.n; simp only [List.length_append, num_length] at this; omega
    go_wp2_with fail
    refine (dNumber_any w2 o2 n2 c2 _ np 4 H2.out.n H2.out.own (by omega) (by omega) (by omega)).mono ?_
    rintro e w3 ⟨o3, c3, n3, rfl, hn3, hown3, hfr3, hk3⟩
    have H3 : Hid (Hs W0 o3 n3 c3 (px r ++ layP (r.pairs.take 0)) w3) := by
      have := H2.out.app hn3.out hown3 hfr3 hk3
      have e : num 1 1 ++ num 8 i ++ num 4 np = px r ++ layP (r.pairs.take 0) := by unfold px; rw [← HI.out, ← HNP.out]; simp [layP]
      rw [e] at this
      exact this
    clear hown3 hfr3 hk3 x0 x1 x2 x3 H2 hn2 hn2b hn3
    go_upto_block 0 with fail
    go_cut [3, 4] from 23 to 45 (fun s _ wc => ∃ oo nn cc, s = .slice oo nn cc ∧ Hid (Hs W0 oo nn cc (px r ++ layP r.pairs) wc))
    case first =>
      go_wp2_with fail
      go_loopw [3, 4] (fun s j wr => ∃ oo nn cc q, s = .slice oo nn cc ∧ j = .int .i64 ((q : Nat) : Int) ∧ q ≤ np ∧ Hid (Hs W0 oo nn cc (px r ++ layP (r.pairs.take q)) wr)) (fun _ j _ => np - (intOf j).toNat)
      case atStart => exact ⟨o3, n3, c3, 0, rfl, rfl, by omega, H3⟩
      case round =>
        rename World => wq
        clear H3
        obtain ⟨oo, nn, cc, q, rfl, rfl, hq, HH⟩ := hrel
        obtain ⟨x0, x1, x2, x3⟩ := cells4 (HH.out.kp.at HB0.out (fun h => h))
        by_cases hqn : q < np
        · have hqn' : (q : Int) < np := by omega
          have hqs : q < r.pairs.length := by have := HNP.out; omega
          obtain ⟨b, off, e1, d1, d2⟩ := (H.out.prs.keepsN (HK0.out.trans HH.out.kp)).atP hqs
          simp only at e1
          have hsz := HPX.out.1 _ (getD_mem_lt p0 hqs)
          have HSN : Hid (layP (r.pairs.take (q + 1)) = layP (r.pairs.take q) ++ (txt (nats (r.pairs.getD q p0).1) ++ txt (nats (r.pairs.getD q p0).2))) := layP_snoc _ _ hqs
          have HSL : Hid (∀ W, Keeps no W0 W → Sl PE W (some ⟨b, off, none⟩) cp r.pairs) := by
            intro W hW
            have := H.out.prs.keepsN (HK0.out.trans hW)
            simp only at this
            rw [e1] at this
            exact this
          subst e1
          generalize hgp : r.pairs.getD q p0 = s at d1 d2 hsz HSN
          have HGP : Hid (r.pairs.getD q p0 = s ∧ q < r.pairs.length) := ⟨hgp, hqs⟩
          obtain ⟨s1, s2⟩ := s
          simp only at d1 d2 hsz HSN
          have hnnb : (nn : Int) ≤ 134223885 := by have := HH.out.n; rw [List.length_append, px_length] at this; have := HBP.out q; omega
          clear hgp hqs
          go_wp2_with fail
          refine (dText_any wq oo nn cc _ s1 HH.out.n HH.out.own (by omega) hsz.1).mono ?_
          rintro e w4 ⟨o4, c4, n4, rfl, hn4, hown4, hfr4, hk4⟩
          have H4 : Hid (Hs W0 o4 n4 c4 (px r ++ layP (r.pairs.take q) ++ txt (nats s1)) w4) := HH.out.app hn4.out hown4 hfr4 hk4
          have hn4b : (n4 : Int) ≤ 134289424 := by have := hn4.out; rw [List.length_append, ← HH.out.n, txt_length, nats_length] at this; omega
          clear hown4 hfr4 hk4 x0 x1 x2 x3 d1 d2
          obtain ⟨x0, x1, x2, x3⟩ := cells4 (H4.out.kp.at HB0.out (fun h => h))
          obtain ⟨b', off', e2, d1, d2⟩ := (HSL.out w4 H4.out.kp).atP HGP.out.2
          cases e2
          rw [HGP.out.1] at d1 d2
          simp only at d1 d2
          go_wp2_with fail
          refine (dText_any w4 o4 n4 c4 _ s2 H4.out.n H4.out.own (by omega) hsz.2).mono ?_
          rintro e w5 ⟨o5, c5, n5, rfl, hn5, hown5, hfr5, hk5⟩
          have H5 : Hid (Hs W0 o5 n5 c5 (px r ++ layP (r.pairs.take (q + 1))) w5) := by
            have := H4.out.app hn5.out hown5 hfr5 hk5
            rw [HSN.out, ← List.append_assoc, ← List.append_assoc]
            exact this
          go_wp2_with fail
          go_roundw
          case rel => exact ⟨o5, n5, c5, q + 1, rfl, by go_num, by omega, H5⟩
          case measure => simp [intOf]; omega
        · have hqn' : ¬ (q : Int) < np := by omega
          have hqe : r.pairs.take q = r.pairs := List.take_of_length_le (by have := HNP.out; omega)
          go_wp2_with fail
          go_meet
          case rel => exact ⟨oo, nn, cc, rfl, by have := HH.out; rw [hqe] at this; exact this⟩
    case rest =>
    obtain ⟨oo, nn, cc, rfl, HH⟩ := hcut
    rename World => w4
    clear H3
    obtain ⟨x0, x1, x2, x3⟩ := cells4 (HH.out.kp.at HB0.out (fun h => h))
    have hnnb : (nn : Int) ≤ 134223885 := by have := HH.out.n; rw [List.length_append, px_length] at this; have h5 := HBP.out r.pairs.length; rw [List.take_length] at h5; omega
    go_wp2_with fail
    refine (dNumber_any w4 oo nn cc _ nk 4 HH.out.n HH.out.own (by omega) (by omega) (by omega)).mono ?_
    rintro e w5 ⟨o5, c5, n5, rfl, hn5, hown5, hfr5, hk5⟩
    have H5 : Hid (Hs W0 o5 n5 c5 (px r ++ layP r.pairs ++ num 4 r.keys.length ++ txtsBody (natss (r.keys.take 0))) w5) := by
      have := HH.out.app hn5.out hown5 hfr5 hk5
      rw [HNK.out] at this
      show Hs _ _ _ _ _ _
      simpa [natss, txtsBody] using this
    clear hown5 hfr5 hk5 x0 x1 x2 x3 hn5
    go_wp2_with fail
    go_loopw [3, 5] (fun s j wr => ∃ oo nn cc q, s = .slice oo nn cc ∧ j = .int .i64 ((q : Nat) : Int) ∧ q ≤ nk ∧ Hid (Hs W0 oo nn cc (px r ++ layP r.pairs ++ num 4 r.keys.length ++ txtsBody (natss (r.keys.take q))) wr)) (fun _ j _ => nk - (intOf j).toNat)
    case atStart => exact ⟨o5, n5, c5, 0, rfl, rfl, by omega, H5⟩
    case round =>
      rename World => wq
      clear H5 HH
      obtain ⟨oo, nn, cc, q, rfl, rfl, hq, HH⟩ := hrel
      obtain ⟨x0, x1, x2, x3⟩ := cells4 (HH.out.kp.at HB0.out (fun h => h))
      by_cases hqn : q < nk
      · have hqn' : (q : Int) < nk := by omega
        have hqs : q < r.keys.length := by have := HNK.out; omega
        obtain ⟨b, off, e1, d1⟩ := (H.out.kys.keepsN (HK0.out.trans HH.out.kp)).at hqs
        simp only at e1
        subst e1
        have hsz := HPX.out.2 _ (getD_mem_lt e0 hqs)
        have HSN : Hid (txtsBody (natss (r.keys.take (q + 1))) = txtsBody (natss (r.keys.take q)) ++ txt (nats (r.keys.getD q e0))) := txtsBody_snoc _ _ hqs
        generalize r.keys.getD q e0 = s1 at d1 hsz HSN
        have hnnb : (nn : Int) ≤ 201335825 := by have := HH.out.n; rw [List.length_append, List.length_append, List.length_append, px_length, num_length] at this; have h5 := HBP.out r.pairs.length; rw [List.take_length] at h5; have := HBK.out q; omega
        go_wp2_with fail
        refine (dText_any wq oo nn cc _ s1 HH.out.n HH.out.own (by omega) hsz).mono ?_
        rintro e w6 ⟨o6, c6, n6, rfl, hn6, hown6, hfr6, hk6⟩
        have H6 : Hid (Hs W0 o6 n6 c6 (px r ++ layP r.pairs ++ num 4 r.keys.length ++ txtsBody (natss (r.keys.take (q + 1)))) w6) := by
          have := HH.out.app hn6.out hown6 hfr6 hk6
          rw [HSN.out, ← List.append_assoc]
          exact this
        go_wp2_with fail
        go_roundw
        case rel => exact ⟨o6, n6, c6, q + 1, rfl, by go_num, by omega, H6⟩
        case measure => simp [intOf]; omega
      · have hqn' : ¬ (q : Int) < nk := by omega
        have hqe : r.keys.take q = r.keys := List.take_of_length_le (by have := HNK.out; omega)
        go_wp2_with fail
        go_ret
        have h7 := HH.out
        rw [hqe, ← body_1 HKD.out.symm] at h7
        exact ⟨oo, nn, cc, rfl, h7.n, h7.own, h7.new.of_le HK0.out.size, HK0.out.trans h7.kp⟩
  · rw [← HKD.out] at hk
    subst hk
    have HL0 : Hid (Hs (w.alloc (.cells #[.int .i64 2, .int .u64 (i : Nat), .slice op np cp, .slice ok nk ck] 41)) (some ⟨w.heap.size + 1, 0, none⟩) 1 1 (num 1 2) ((w.alloc (.cells #[.int .i64 2, .int .u64 (i : Nat), .slice op np cp, .slice ok nk ck] 41)).alloc (.cells #[.int .u8 2] 5))) := by
      have e1 : (w.alloc (.cells #[.int .i64 2, .int .u64 (i : Nat), .slice op np cp, .slice ok nk ck] 41)).heap.size = w.heap.size + 1 := by simp
      have := owns_lit (w.alloc (.cells #[.int .i64 2, .int .u64 (i : Nat), .slice op np cp, .slice ok nk ck] 41)) (num 1 2) (by simp [num_length])
      rw [e1] at this
      exact ⟨this, rfl, new_fresh _ _ (by rw [e1]; exact Nat.le_refl _) _, (Keeps.refl _ _).alloc _⟩
    have HB0 : Hid ((w.alloc (.cells #[.int .i64 2, .int .u64 (i : Nat), .slice op np cp, .slice ok nk ck] 41)).heap[w.heap.size]? = some (.cells #[.int .i64 2, .int .u64 (i : Nat), .slice op np cp, .slice ok nk ck] 41 (0, 0))) := hb0
    clear hb0
    go_enter Tryz.func68, Tryz.ntmps68
    go_wp2_with fail
    refine (dNumber_any _ _ 1 1 (num 1 2) i 8 HL0.out.n HL0.out.own (by omega) hi (by omega)).mono ?_
    rintro e w2 ⟨o2, c2, n2, rfl, hn2, hown2, hfr2, hk2⟩
    have H2 := HL0.out.app hn2.out hown2 hfr2 hk2
    obtain ⟨x0, x1, x2, x3⟩ := cells4 (H2.kp.at HB0.out (fun h => h))
    have HH2 : Hid (Hs _ o2 n2 c2 (num 1 2 ++ num 8 i) w2) := H2
    clear hown2 hfr2 hk2 H2 HL0 hn2
    go_wp2_with fail
    go_ret
    have h7 := HH2.out
    have eb : num 1 2 ++ num 8 i = body r := by rw [HI.out, body_2 HKD.out.symm]
    rw [eb] at h7
    exact ⟨o2, n2, c2, rfl, h7.n, h7.own, h7.new.of_le HK0.out.size, HK0.out.trans h7.kp⟩
end Go.Proofs.YtgamhblkgojapaaGreatDoor
/- The document's length of a payload; its Build. -/
namespace Go.Proofs.YtgamhblkgojapaaGreatDoor
open Go.RowKit Go.Sort Orl Pk
set_option linter.unusedVariables false
set_option linter.unusedSimpArgs false

theorem layP1_length (p : Pr) : (layP1 p).length = 8 + p.1.size + p.2.size := by
  unfold layP1; rw [List.length_append, txt_length, txt_length, nats_length, nats_length]; omega
theorem layP_snoc_len (l : List Pr) (k : Nat) (hk : k < l.length) : (layP (l.take (k + 1))).length = (layP (l.take k)).length + 8 + (l.getD k p0).1.size + (l.getD k p0).2.size := by
  rw [layP_snoc l k hk, List.length_append, List.length_append, txt_length, txt_length, nats_length, nats_length]; omega
theorem keys_snoc_len (l : List Tx) (k : Nat) (hk : k < l.length) : (txtsBody (natss (l.take (k + 1)))).length = (txtsBody (natss (l.take k))).length + 4 + (l.getD k e0).size := by
  have := txtsBody_snoc l k hk
  rw [this, List.length_append, txt_length, nats_length]; unfold e0; omega

set_option maxRecDepth 20000 in
set_option maxHeartbeats 2000000 in
theorem dLong_any (w : World) (k : Int) (i : Nat) (op : Option Addr) (np cp : Nat) (ok : Option Addr) (nk ck : Nat) (r : Rec) (h : IsC w ⟨k, i, op, np, cp, ok, nk, ck⟩ r) (hm : may r = true) :
    Calls Tryz.prog 67 #[.agg #[.int .i64 k, .int .u64 (i : Nat), .slice op np cp, .slice ok nk ck]] w fun e w' => (∃ n : Nat, e = .returned (.int .i64 (n : Nat)) ∧ Hid (n = (body r).length) ∧ (n : Int) ≤ 300000000) ∧ Keeps no w w' := by
  have H : Hid (IsC w ⟨k, i, op, np, cp, ok, nk, ck⟩ r) := h
  have hp := (may_parts hm).2
  have HKD : Hid (k = r.kind) := h.k
  have HNP : Hid (np = r.pairs.length) := h.np
  have HNK : Hid (nk = r.keys.length) := h.nk
  have k0 : Keeps no w (w.alloc (.cells #[.int .i64 k, .int .u64 (i : Nat), .slice op np cp, .slice ok nk ck] 41)) := (Keeps.refl _ _).alloc _
  have HK0 : Hid (Keeps no w (w.alloc (.cells #[.int .i64 k, .int .u64 (i : Nat), .slice op np cp, .slice ok nk ck] 41))) := k0
  have hb0 := blk_new w (.cells #[.int .i64 k, .int .u64 (i : Nat), .slice op np cp, .slice ok nk ck] 41)
  have HB0 : Hid ((w.alloc (.cells #[.int .i64 k, .int .u64 (i : Nat), .slice op np cp, .slice ok nk ck] 41)).heap[w.heap.size]? = some (.cells #[.int .i64 k, .int .u64 (i : Nat), .slice op np cp, .slice ok nk ck] 41 (0, 0))) := hb0
  clear h hm k0 hb0
  rcases hp with ⟨hk, hK, hP⟩ | ⟨hk, hps, hks⟩
  · rw [← HKD.out] at hk
    subst hk
    obtain ⟨q1, q2, q3, _⟩ := mayK_all hK
    obtain ⟨p1, p2, p3⟩ := mayP_all hK hP
    have hnp : (np : Int) ≤ 1024 := by have := HNP.out; omega
    have hnk : (nk : Int) ≤ 1024 := by have := HNK.out; omega
    have HPX : Hid ((∀ p ∈ r.pairs, p.1.size ≤ 65535 ∧ p.2.size ≤ 65535) ∧ (∀ s ∈ r.keys, s.size ≤ 65535)) := ⟨p3, q3⟩
    have HBP : Hid (∀ q, (layP (r.pairs.take q)).length ≤ 134223872) := pairs_big hK hP
    have HBK : Hid (∀ q, (txtsBody (natss (r.keys.take q))).length ≤ 67111936) := keys_big hK
    clear hK hP q1 q2 q3 p1 p2 p3
    go_enter Tryz.func67, Tryz.ntmps67
    go_upto_block 0 with fail
    generalize w.alloc (.cells #[.int .i64 1, .int .u64 (i : Nat), .slice op np cp, .slice ok nk ck] 41) = W0 at HK0 HB0 ⊢
    generalize w.heap.size = A at HB0 ⊢
    go_cut [3, 4] from 11 to 35 (fun s _ wc => ∃ n : Nat, s = .int .i64 (n : Nat) ∧ Hid (n = 17 + (layP r.pairs).length) ∧ (n : Int) ≤ 134223889 ∧ ∃ m, wc = W0.drewN m)
    case first =>
      go_wp2_with fail
      go_loopw [3, 4] (fun s j wr => ∃ n q m : Nat, s = .int .i64 (n : Nat) ∧ j = .int .i64 (q : Nat) ∧ q ≤ np ∧ Hid (n = 17 + (layP (r.pairs.take q)).length) ∧ (n : Int) ≤ 134223889 ∧ wr = W0.drewN m) (fun _ j _ => np - (intOf j).toNat)
      case atStart => exact ⟨17, 0, 0, rfl, rfl, by omega, by show _ = _; simp [layP], by omega, rfl⟩
      case round =>
        obtain ⟨n, q, m, rfl, rfl, hq, HNN, hnb, rfl⟩ := hrel
        obtain ⟨x0, x1, x2, x3⟩ := cells4 HB0.out
        by_cases hqn : q < np
        · have hqn' : (q : Int) < np := by omega
          have hqs : q < r.pairs.length := by have := HNP.out; omega
          obtain ⟨b, off, e1, d1, d2⟩ := (H.out.prs.keepsN HK0.out).atP hqs
          simp only at e1
          subst e1
          have hsz := HPX.out.1 _ (getD_mem_lt p0 hqs)
          have HSN : Hid ((layP (r.pairs.take (q + 1))).length = (layP (r.pairs.take q)).length + 8 + (r.pairs.getD q p0).1.size + (r.pairs.getD q p0).2.size) := layP_snoc_len _ _ hqs
          generalize r.pairs.getD q p0 = s at d1 d2 hsz HSN
          obtain ⟨s1, s2⟩ := s
          simp only at d1 d2 hsz HSN
          have hz1 : (s1.size : Int) ≤ 65535 := by omega
          have hz2 : (s2.size : Int) ≤ 65535 := by omega
          have HBQ : Hid ((layP (r.pairs.take (q + 1))).length ≤ 134223872) := HBP.out (q + 1)
          have w1 : IntKind.i64.wrap ((n : Int) + 8) = (n : Int) + 8 := by rw [IntKind.wrap_i64]; omega
          have w2 : IntKind.i64.wrap ((n : Int) + 8 + (s1.size : Int)) = (n : Int) + 8 + (s1.size : Int) := by rw [IntKind.wrap_i64]; omega
          have w3 : IntKind.i64.wrap ((n : Int) + 8 + (s1.size : Int) + (s2.size : Int)) = (n : Int) + 8 + (s1.size : Int) + (s2.size : Int) := by rw [IntKind.wrap_i64]; omega
          go_wp2_with fail
          go_quiet (fail)
          go_wp2_with fail
          go_roundw
          case rel => exact ⟨n + 8 + s1.size + s2.size, q + 1, _, by go_num, by go_num, by omega, by show _ = _; rw [HSN.out, HNN.out]; omega, by have := HBQ.out; have := HSN.out; have := HNN.out; omega, rfl⟩
          case measure => simp [intOf]; omega
        · have hqn' : ¬ (q : Int) < np := by omega
          have hqe : r.pairs.take q = r.pairs := List.take_of_length_le (by have := HNP.out; omega)
          rw [hqe] at HNN
          go_wp2_with fail
          go_meet
          case rel => exact ⟨n, rfl, HNN, hnb, m, rfl⟩
    case rest =>
    obtain ⟨n0, rfl, HN0, hn0b, m0, rfl⟩ := hcut
    go_wp2_with fail
    go_loop [3, 5] (fun s j => ∃ n q : Nat, s = .int .i64 (n : Nat) ∧ j = .int .i64 (q : Nat) ∧ q ≤ nk ∧ Hid (n = n0 + (txtsBody (natss (r.keys.take q))).length) ∧ (n : Int) ≤ 201335825) (fun _ j => nk - (intOf j).toNat)
    case atStart => exact ⟨n0, 0, rfl, rfl, by omega, by show _ = _; simp [natss, txtsBody], by omega⟩
    case round =>
      obtain ⟨n, q, rfl, rfl, hq, HNN, hnb⟩ := hrel
      obtain ⟨x0, x1, x2, x3⟩ := cells4 HB0.out
      by_cases hqn : q < nk
      · have hqn' : (q : Int) < nk := by omega
        have hqs : q < r.keys.length := by have := HNK.out; omega
        obtain ⟨b, off, e1, d1⟩ := (H.out.kys.keepsN HK0.out).at hqs
        simp only at e1
        subst e1
        have hsz := HPX.out.2 _ (getD_mem_lt e0 hqs)
        have HSN : Hid ((txtsBody (natss (r.keys.take (q + 1)))).length = (txtsBody (natss (r.keys.take q))).length + 4 + (r.keys.getD q e0).size) := keys_snoc_len _ _ hqs
        generalize r.keys.getD q e0 = s1 at d1 hsz HSN
        have hz1 : (s1.size : Int) ≤ 65535 := by omega
        have HBQ : Hid ((txtsBody (natss (r.keys.take (q + 1)))).length ≤ 67111936) := HBK.out (q + 1)
        go_wp2_with fail
        go_round
        case rel => exact ⟨n + 4 + s1.size, q + 1, by go_num, by go_num, by omega, by show _ = _; rw [HSN.out, HNN.out]; omega, by have := HBQ.out; have := HSN.out; have := HNN.out; omega⟩
        case measure => simp [intOf]; omega
      · have hqn' : ¬ (q : Int) < nk := by omega
        have hqe : r.keys.take q = r.keys := List.take_of_length_le (by have := HNK.out; omega)
        rw [hqe] at HNN
        go_wp2_with fail
        go_ret
        refine ⟨⟨n, rfl, ?_, by omega⟩, HK0.out.drewN _⟩
        show _ = _
        rw [body_1 HKD.out.symm, HNN.out, HN0.out]
        simp only [List.length_append, px_length, num_length]
        omega
  · rw [← HKD.out] at hk
    subst hk
    have hnp0 : np = 0 := by rw [HNP.out, hps]; rfl
    have hnk0 : nk = 0 := by rw [HNK.out, hks]; rfl
    subst hnp0 hnk0
    go_enter Tryz.func67, Tryz.ntmps67
    go_wp2_with fail
    go_loop [3, 4] (fun s j => s = .int .i64 9 ∧ j = .int .i64 0) (fun _ _ => 0)
    case atStart => exact ⟨rfl, rfl⟩
    case round =>
      obtain ⟨rfl, rfl⟩ := hrel
      go_wp2_with fail
      go_loop [3, 5] (fun s j => s = .int .i64 9 ∧ j = .int .i64 0) (fun _ _ => 0)
      case atStart => exact ⟨rfl, rfl⟩
      case round =>
        obtain ⟨rfl, rfl⟩ := hrel
        go_wp2_with fail
        go_ret
        refine ⟨⟨9, rfl, ?_, by omega⟩, HK0.out⟩
        show _ = _
        rw [body_2 HKD.out.symm, List.length_append, num_length, num_length]

set_option maxRecDepth 20000 in
set_option maxHeartbeats 2000000 in
theorem dBuild_any (w : World) (k : Int) (i : Nat) (op : Option Addr) (np cp : Nat) (ok : Option Addr) (nk ck : Nat) (r : Rec) (h : IsC w ⟨k, i, op, np, cp, ok, nk, ck⟩ r) :
    Calls Tryz.prog 42 #[.agg #[.int .i64 k, .int .u64 (i : Nat), .slice op np cp, .slice ok nk ck]] w (TellsB w (encB r) (encE r)) := by
  have H : Hid (IsC w ⟨k, i, op, np, cp, ok, nk, ck⟩ r) := h
  clear h
  have hk0 : Keeps no w (w.alloc (.cells #[.int .i64 k, .int .u64 (i : Nat), .slice op np cp, .slice ok nk ck] 41)) := (Keeps.refl _ _).alloc _
  go_enter Tryz.func42, Tryz.ntmps42
  go_wp2_with fail
  refine (rMay_any _ k i op np cp ok nk ck r (H.out.keepsN hk0)).mono ?_
  rintro e w1 ⟨rfl, hk1⟩
  have HK1 : Hid (Keeps no w w1) := hk0.trans hk1
  have hb1 := hk1.at (blk_new w _) (fun h => h)
  have HB1 : Hid (w1.heap[w.heap.size]? = some (.cells #[.int .i64 k, .int .u64 (i : Nat), .slice op np cp, .slice ok nk ck] 41 (0, 0))) := hb1
  obtain ⟨x0, x1, x2, x3⟩ := cells4 hb1
  clear hb1 hk0 hk1
  generalize w.heap.size = A at HB1 x0 x1 x2 x3 ⊢
  cases hm : may r
  · have HE1 : Hid (encE r = 1 ∧ encB r = []) := encE_bad hm
    clear hm
    go_wp2_with fail
    go_ret2
    refine ⟨none, 0, 0, ?_, ?_, ?_, new_none _, HK1.out⟩
    · rw [HE1.out.1]; rfl
    · show _ = _; rw [HE1.out.2]; rfl
    · rw [HE1.out.2]; exact owns_nil _
  · have HM : Hid (may r = true) := hm
    clear hm
    go_wp2_with fail
    refine (dLong_any w1 k i op np cp ok nk ck r (H.out.keepsN HK1.out) HM.out).mono ?_
    rintro e w2 ⟨⟨n, rfl, HNN, hnb⟩, hk2⟩
    have HK2 : Hid (Keeps no w w2) := HK1.out.trans hk2
    have hb2 := hk2.at HB1.out (fun h => h)
    clear x0 x1 x2 x3 hk2
    obtain ⟨x0, x1, x2, x3⟩ := cells4 hb2
    clear hb2
    by_cases hl : 1048576 < n
    · have hl' : (n : Int) > 1048576 := by omega
      have HE1 : Hid (encE r = 3 ∧ encB r = []) := encE_long HM.out (by rw [← HNN.out]; exact hl)
      clear hl
      go_wp2_with fail
      go_ret2
      refine ⟨none, 0, 0, ?_, ?_, ?_, new_none _, HK2.out⟩
      · rw [HE1.out.1]; rfl
      · show _ = _; rw [HE1.out.2]; rfl
      · rw [HE1.out.2]; exact owns_nil _
    · have hl' : ¬ (n : Int) > 1048576 := by omega
      have HE1 : Hid (encE r = 0 ∧ encB r = enc r) := encE_ok HM.out (by rw [← HNN.out]; omega)
      have HBL : Hid ((body r).length ≤ 1048576) := by show _ ≤ _; rw [← HNN.out]; omega
      clear hl
      go_wp2_with fail
      refine (dPayload_any w2 k i op np cp ok nk ck r (H.out.keepsN HK2.out) HM.out).mono ?_
      rintro e w3 ⟨o3, n3, c3, rfl, hn3, hown3, hnew3, hk3⟩
      have HK3 : Hid (Keeps no w w3) := HK2.out.trans hk3
      have HO3 : Hid (Owns w3 o3 c3 (body r)) := hown3
      have hn3b : (n3 : Int) ≤ 1048576 := by have := hn3.out; have := HBL.out; omega
      clear hown3 hnew3 hk3
      go_wp2_with fail
      refine (dNumber_any w3 none 0 0 [] n3 4 rfl (owns_nil _) (by omega) (by omega) (by omega)).mono ?_
      rintro e w4 ⟨o4, c4, n4, rfl, hn4, hown4, hfr4, hk4⟩
      have H4 : Hid (Hs w o4 n4 c4 (num 4 n3) w4 ∧ Keeps no w3 w4 ∧ New w3 o4) := ⟨(⟨owns_nil _, rfl, new_none _, HK3.out⟩ : Hs w none 0 0 [] w3).app hn4.out hown4 hfr4 hk4, (hfr4.new hk4 (new_none w3) (Keeps.refl no w3)).2, (hfr4.new hk4 (new_none w3) (Keeps.refl no w3)).1⟩
      have HR4 : Hid (BRow w4 o3 (body r)) := (HO3.out.row (body_byt r) (by have := HBL.out; omega)).keeps H4.out.2.1 (fun _ _ h => h)
      have hn4b : (n4 : Int) ≤ 4 := by have := H4.out.1.n; rw [num_length] at this; omega
      clear hown4 hfr4 hk4 hn4
      go_wp2_with fail
      refine (dCrc_any w4 o3 n3 c3 (body r) hn3.out HR4.out).mono ?_
      rintro e wq ⟨rfl, hwq⟩
      subst wq
      have hslt := sum_body r
      obtain ⟨S, hS⟩ : ∃ S, S = Crc.sum (body r) := ⟨_, rfl⟩
      rw [← hS] at hslt ⊢
      have HS : Hid (S = Crc.sum (body r)) := hS
      clear hS
      go_wp2_with fail
      refine (dNumber_any w4 o4 n4 c4 (num 4 n3) S 4 H4.out.1.n H4.out.1.own (by omega) (by omega) (by omega)).mono ?_
      rintro e w5 ⟨o5, c5, n5, rfl, hn5, hown5, hfr5, hk5⟩
      have H5 : Hid (Hs w o5 n5 c5 (num 4 n3 ++ num 4 S) w5) := H4.out.1.app hn5.out hown5 hfr5 hk5
      have HR5 : Hid (BRow w5 o3 (body r)) := (HO3.out.row (body_byt r) (by have := HBL.out; omega)).keeps (hfr5.new hk5 H4.out.2.2 H4.out.2.1).2 (fun _ _ h => h)
      have hn5b : (n5 : Int) ≤ 8 := by have := H5.out.n; rw [List.length_append, num_length, num_length] at this; omega
      clear hown5 hfr5 hk5 hn5
      go_wp2_with (at_builtin; go_must (refine wpList_appB rfl _ _ rfl o5 n5 c5 (num 4 n3 ++ num 4 S) rfl H5.out.n H5.out.own o3 n3 c3 (body r) rfl hn3.out HO3.out.cap.2 HR5.out (by omega) ?_); intro o6 c6 w6 ho6 hfr6 hk6)
      go_ret2
      have h6 := H5.out.app (n' := n5 + n3) (by rw [List.length_append, ← H5.out.n, ← hn3.out]) ho6 hfr6 hk6
      have ee : num 4 n3 ++ num 4 S ++ body r = enc r := by unfold enc; rw [HS.out, hn3.out, List.append_assoc]
      rw [ee] at h6
      refine ⟨o6, n5 + n3, c6, ?_, ?_, ?_, h6.new, h6.kp⟩
      · rw [HE1.out.1]; rfl
      · show _ = _; rw [HE1.out.2]; exact h6.n
      · rw [HE1.out.2]; exact h6.own
end Go.Proofs.YtgamhblkgojapaaGreatDoor
/- The document's reading: a number and a text at a place, whatever is there; what is laid is read as it was. -/
namespace Go.Proofs.YtgamhblkgojapaaGreatDoor
open Go.RowKit Go.Sort Orl Pk
set_option linter.unusedVariables false
set_option linter.unusedSimpArgs false

/-- a number of n bytes at a place; beyond the end the bytes are 0 -/
def getP (b : List Nat) (at' : Nat) : Nat → Nat
  | 0 => 0
  | n + 1 => getP b at' n * 256 + b.getD (at' + n) 0
theorem getD_byt {b : List Nat} (hb : ∀ c ∈ b, c < 256) (j : Nat) : b.getD j 0 < 256 := by
  by_cases h : j < b.length
  · exact getD_lt' b hb j h
  · rw [List.getD_eq_getElem?_getD, List.getElem?_eq_none (by omega)]; simp
theorem getP_lt {b : List Nat} (hb : ∀ c ∈ b, c < 256) (a : Nat) : ∀ n, getP b a n < 256 ^ n
  | 0 => by simp [getP]
  | n + 1 => by
    have h1 := getP_lt hb a n
    have h2 := getD_byt hb (a + n)
    rw [getP, Nat.pow_succ]; omega
theorem getP_val (b : List Nat) (a : Nat) : ∀ n, a + n ≤ b.length → getP b a n = Pk.val ((b.drop a).take n)
  | 0, _ => by simp [getP, Pk.val]
  | n + 1, h => by
    rw [getP, getP_val b a n (by omega), take_succ_getD (b.drop a) n 0 (by rw [List.length_drop]; omega), val_append]
    simp [List.getD_eq_getElem?_getD]
theorem getP_num {b : List Nat} {a n v : Nat} {t : List Nat} (h : b.drop a = num n v ++ t) (ha : a + n ≤ b.length) (hv : v < 256 ^ n) : getP b a n = v := by
  rw [getP_val b a n ha, h, take_num, val_num, Nat.mod_eq_of_lt hv]
/-- a text at a place, cut to what there is; and the place behind it -/
def pieceP (b : List Nat) (a : Nat) : List Nat × Nat := ((b.take (min (min (a + 4) b.length + getP b a 4) b.length)).drop (min (a + 4) b.length), a + 4 + getP b a 4)
theorem pieceP_txt {b : List Nat} {a : Nat} {s t : List Nat} (h : b.drop a = txt s ++ t) (ha : a ≤ b.length) (hs : s.length < 4294967296) : pieceP b a = (s, a + (txt s).length) ∧ b.drop (a + (txt s).length) = t ∧ a + (txt s).length ≤ b.length := by
  have hl : b.length - a = (4 + s.length) + t.length := by
    have := congrArg List.length h
    rw [List.length_drop, List.length_append, txt_length] at this
    exact this
  have hg : getP b a 4 = s.length := getP_num (t := s ++ t) (by rw [h]; unfold txt; rw [List.append_assoc]) (by omega) (by simpa using hs)
  have hd : b.drop (a + (txt s).length) = t := by
    rw [← List.drop_drop, h, List.drop_left]
  have hd4 : b.drop (a + 4) = s ++ t := by
    rw [← List.drop_drop, h]; unfold txt; rw [List.append_assoc, drop_num]
  refine ⟨?_, hd, by rw [txt_length]; omega⟩
  unfold pieceP
  rw [hg, Nat.min_eq_left (show a + 4 ≤ b.length by omega), Nat.min_eq_left (show a + 4 + s.length ≤ b.length by omega), List.drop_take, hd4, txt_length]
  rw [show a + 4 + s.length - (a + 4) = s.length by omega, List.take_left, Nat.add_assoc]
theorem pieceP_byt {b : List Nat} (hb : ∀ c ∈ b, c < 256) (a : Nat) : (∀ c ∈ (pieceP b a).1, c < 256) ∧ (pieceP b a).1.length ≤ b.length ∧ a + 4 ≤ (pieceP b a).2 ∧ (pieceP b a).2 ≤ a + 4294967300 := by
  have := getP_lt hb a 4
  refine ⟨byt_drop (byt_take hb _) _, ?_, by unfold pieceP; simp only; omega, by unfold pieceP; simp only; omega⟩
  unfold pieceP
  simp only [List.length_drop, List.length_take]; omega
def pair1 (b : List Nat) (a : Nat) : Pr × Nat := ((text (pieceP b a).1, text (pieceP b (pieceP b a).2).1), (pieceP b (pieceP b a).2).2)
def key1 (b : List Nat) (a : Nat) : Tx × Nat := (text (pieceP b a).1, (pieceP b a).2)
/-- so many rounds -/
def lots {α : Type} (f : Nat → α × Nat) (a : Nat) : Nat → List α × Nat
  | 0 => ([], a)
  | n + 1 => ((lots f a n).1 ++ [(f (lots f a n).2).1], (f (lots f a n).2).2)
theorem lots_length {α : Type} (f : Nat → α × Nat) (a : Nat) : ∀ n, (lots f a n).1.length = n
  | 0 => rfl
  | n + 1 => by simp [lots, lots_length f a n]
theorem lots_lay {α : Type} (b : List Nat) (f : Nat → α × Nat) (lay1 : α → List Nat) (l : List α) (t : List Nat) (a : Nat) (ha : a ≤ b.length) (h : ∀ x ∈ l, ∀ a t, a ≤ b.length → b.drop a = lay1 x ++ t → f a = (x, a + (lay1 x).length)) (hb : b.drop a = l.flatMap lay1 ++ t) :
    ∀ n, n ≤ l.length → (lots f a n).1 = l.take n ∧ (lots f a n).2 ≤ b.length ∧ b.drop (lots f a n).2 = (l.drop n).flatMap lay1 ++ t
  | 0, _ => by simp [lots]; exact ⟨ha, hb⟩
  | n + 1, hn => by
    obtain ⟨i1, i2, i3⟩ := lots_lay b f lay1 l t a ha h hb n (by omega)
    have hd : l.drop n = l[n] :: l.drop (n + 1) := List.drop_eq_getElem_cons (by omega)
    rw [hd, List.flatMap_cons, List.append_assoc] at i3
    have hf := h _ (List.getElem_mem _) _ _ i2 i3
    rw [lots, hf, i1]
    simp only
    refine ⟨(List.take_succ_eq_append_getElem (by omega)).symm, ?_, ?_⟩
    · have := congrArg List.length i3
      rw [List.length_drop, List.length_append] at this
      by_cases h0 : (lay1 l[n]).length = 0
      · omega
      · omega
    · rw [← List.drop_drop, i3, List.drop_left]
/-- where a loop that reads ends -/
def Ends {α : Type} (b : List Nat) (f : Nat → α × Nat) (a n I : Nat) : Prop := I ≤ n ∧ (I = n ∨ b.length ≤ (lots f a I).2)
/-- what a payload says, as far as it goes -/
structure Len (b : List Nat) (r : Rec) : Prop where
  k : r.kind = (getP b 0 1 : Nat)
  i : r.id = getP b 1 8
  one : getP b 0 1 = 1 → ∃ I J, Ends b (pair1 b) 13 (getP b 9 4) I ∧ Ends b (key1 b) ((lots (pair1 b) 13 I).2 + 4) (getP b (lots (pair1 b) 13 I).2 4) J ∧ r.pairs = (lots (pair1 b) 13 I).1 ∧ r.keys = (lots (key1 b) ((lots (pair1 b) 13 I).2 + 4) J).1
  two : getP b 0 1 ≠ 1 → r.pairs = [] ∧ r.keys = []
theorem txtsBody_flat (l : List Tx) : txtsBody (natss l) = l.flatMap (fun s => txt (nats s)) := by
  induction l with
  | nil => rfl
  | cons x l ih => simp [natss, txtsBody] at ih ⊢; rw [← ih]
theorem pair1_lay {b : List Nat} {p : Pr} {a : Nat} {t : List Nat} (h1 : p.1.size ≤ 65535) (h2 : p.2.size ≤ 65535) (ha : a ≤ b.length) (h : b.drop a = layP1 p ++ t) : pair1 b a = (p, a + (layP1 p).length) := by
  unfold layP1 at h ⊢
  rw [List.append_assoc] at h
  obtain ⟨e1, e2, e3⟩ := pieceP_txt h ha (txtsz h1).1
  obtain ⟨f1, f2, f3⟩ := pieceP_txt e2 e3 (txtsz h2).1
  unfold pair1
  rw [e1]
  simp only
  rw [f1]
  simp only [text_nats, List.length_append]
  rw [Nat.add_assoc]
theorem key1_lay {b : List Nat} {s : Tx} {a : Nat} {t : List Nat} (h1 : s.size ≤ 65535) (ha : a ≤ b.length) (h : b.drop a = txt (nats s) ++ t) : key1 b a = (s, a + (txt (nats s)).length) := by
  obtain ⟨e1, e2, e3⟩ := pieceP_txt h ha (txtsz h1).1
  unfold key1
  rw [e1, text_nats]
theorem layP1_pos (p : Pr) : 0 < (layP1 p).length := by unfold layP1; rw [List.length_append, txt_length]; omega
/-- an end of such a loop over what is laid: all of it -/
theorem ends_all {α : Type} {b : List Nat} {f : Nat → α × Nat} {lay1 : α → List Nat} {l : List α} {t : List Nat} {a n I : Nat} (hp : ∀ x, 0 < (lay1 x).length) (ha : a ≤ b.length) (h : ∀ x ∈ l, ∀ a t, a ≤ b.length → b.drop a = lay1 x ++ t → f a = (x, a + (lay1 x).length)) (hb : b.drop a = l.flatMap lay1 ++ t) (hn : n = l.length) (hE : Ends b f a n I) :
    (lots f a I).1 = l ∧ (lots f a I).2 ≤ b.length ∧ b.drop (lots f a I).2 = t := by
  subst hn
  obtain ⟨i1, i2, i3⟩ := lots_lay b f lay1 l t a ha h hb I hE.1
  have : I = l.length := by
    rcases hE.2 with e | e
    · exact e
    · by_cases hI : I < l.length
      · have hd : l.drop I = l[I] :: l.drop (I + 1) := List.drop_eq_getElem_cons hI
        rw [hd, List.flatMap_cons] at i3
        have h3 := congrArg List.length i3
        rw [List.length_drop, List.length_append, List.length_append] at h3
        have := hp l[I]
        omega
      · have := hE.1; omega
  subst this
  refine ⟨by rw [i1, List.take_length], i2, by rw [i3]; simp⟩
theorem len_body {r0 r : Rec} (hm : may r0 = true) (hi : r0.id < 18446744073709551616) (h : Len (body r0) r) : r = r0 := by
  obtain ⟨k0, i0, ps, ks⟩ := r0
  obtain ⟨_, hp⟩ := may_parts hm
  simp only at hp hi
  have hK : k0.toNat < 256 ^ 1 ∧ 0 ≤ k0 := by rcases hp with ⟨rfl, _⟩ | ⟨rfl, _⟩ <;> decide
  have d0 : (body ⟨k0, i0, ps, ks⟩).drop 0 = num 1 k0.toNat ++ (num 8 i0 ++ layF ⟨k0, i0, ps, ks⟩) := rfl
  have d1 : (body ⟨k0, i0, ps, ks⟩).drop 1 = num 8 i0 ++ layF ⟨k0, i0, ps, ks⟩ := by unfold body; rw [drop_num]
  have d9 : (body ⟨k0, i0, ps, ks⟩).drop 9 = layF ⟨k0, i0, ps, ks⟩ := by rw [show 9 = 1 + 8 from rfl, ← List.drop_drop, d1, drop_num]
  have hl : (body ⟨k0, i0, ps, ks⟩).length = 9 + (layF ⟨k0, i0, ps, ks⟩).length := by unfold body; simp only [List.length_append, num_length]; omega
  have g0 := getP_num d0 (by omega) hK.1
  have g1 := getP_num d1 (by omega) (by omega)
  have hk := h.k
  have hid := h.i
  rw [g0] at hk
  rw [g1] at hid
  have hk' : r.kind = k0 := by rw [hk]; omega
  rcases hp with ⟨rfl, h1, h2⟩ | ⟨rfl, rfl, rfl⟩
  · obtain ⟨a, _, b, _⟩ := mayK_all h1
    obtain ⟨a2, _, b2⟩ := mayP_all h1 h2
    obtain ⟨I, J, e1, e2, e3, e4⟩ := h.one g0
    have lf : layF ⟨1, i0, ps, ks⟩ = num 4 ps.length ++ (ps.flatMap layP1 ++ (num 4 ks.length ++ ks.flatMap (fun s => txt (nats s)))) := by
      unfold layF
      simp only [if_true]
      unfold txts layP
      rw [txtsBody_flat]
      simp [natss]
    rw [lf] at d9 hl
    generalize hB : body ⟨1, i0, ps, ks⟩ = B at *
    simp only [List.length_append, num_length] at hl
    have g9 := getP_num d9 (by omega) (by omega)
    have d13 : B.drop 13 = ps.flatMap layP1 ++ (num 4 ks.length ++ ks.flatMap (fun s => txt (nats s))) := by rw [show 13 = 9 + 4 from rfl, ← List.drop_drop, d9, drop_num]
    rw [g9] at e1
    obtain ⟨p1, p2, p3⟩ := ends_all layP1_pos (by omega) (fun x hx a t ha hd => pair1_lay (b2 x hx).1 (b2 x hx).2 ha hd) d13 rfl e1
    generalize (lots (pair1 B) 13 I).2 = A at *
    have hA : B.length - A = 4 + (ks.flatMap (fun s => txt (nats s))).length := by
      have := congrArg List.length p3
      rw [List.length_drop, List.length_append, num_length] at this
      exact this
    have gA := getP_num p3 (by omega) (by omega)
    rw [gA] at e2
    have dA : B.drop (A + 4) = ks.flatMap (fun s => txt (nats s)) ++ [] := by rw [← List.drop_drop, p3, drop_num, List.append_nil]
    obtain ⟨q1, _, _⟩ := ends_all (lay1 := fun s => txt (nats s)) (fun x => by rw [txt_length]; omega) (by omega) (fun x hx a t ha hd => key1_lay (b x hx) ha hd) dA rfl e2
    obtain ⟨rk, ri, rp, rks⟩ := r
    simp only at hk' hid e3 e4
    rw [hk', hid, e3, e4, p1, q1]
  · obtain ⟨e3, e4⟩ := h.two (by rw [g0]; decide)
    obtain ⟨rk, ri, rp, rks⟩ := r
    simp only at hk' hid e3 e4
    rw [hk', hid, e3, e4]
/-- it is one if laying it again gives the same bytes -/
theorem len_rok {p : List Nat} {r : Rec} (hb : ∀ c ∈ p, c < 256) (h : Len p r) (hi : r.id < 18446744073709551616) : (rok p = true ↔ may r = true ∧ body r = p) ∧ (rok p = true → (rrec p).1 = r) := by
  have h2 : rok p = true → (rrec p).1 = r := by
    intro hr
    have e := body_read p hb hr
    have hm : may (rrec p).1 = true := by unfold rok at hr; simp at hr; exact hr.2
    refine (len_body hm (rrec_id p hb) ?_).symm
    rw [e]; exact h
  refine ⟨⟨fun hr => ?_, fun ⟨hm, he⟩ => ?_⟩, h2⟩
  · have e := h2 hr
    have hm : may (rrec p).1 = true := by unfold rok at hr; simp at hr; exact hr.2
    rw [← e]
    exact ⟨hm, body_read p hb hr⟩
  · have := rrec_body r hm hi
    rw [he] at this
    unfold rok rend0
    rw [this]
    simp [hm]
end Go.Proofs.YtgamhblkgojapaaGreatDoor
/- The document's get and piece. -/
namespace Go.Proofs.YtgamhblkgojapaaGreatDoor
open Go.RowKit Go.Sort Orl Pk
set_option linter.unusedVariables false
set_option linter.unusedSimpArgs false

theorem cutLH (w0 : World) (o : Option Addr) (c : Nat) (bs : List Nat) (n I J : Nat) (hn : n = bs.length) (hI : I ≤ J) (hJ : J ≤ n) (h : BSl w0 o c bs) :
    ∃ A d, (∀ w, (Instr.slice 42 (.slice o n c) (some (.int .i64 ((I : Nat) : Int))) (some (.int .i64 ((J : Nat) : Int))) none).run Tryz.prog w = .ok (.slice A (J - I) d) w) ∧ BSl w0 A d ((bs.take J).drop I) := by
  subst hn
  have hcap := h.cap
  match o, h with
  | none, h =>
    obtain rfl : c = 0 := h.nil rfl
    obtain rfl : J = 0 := by omega
    obtain rfl : I = 0 := by omega
    have h0 : bs = [] := List.length_eq_zero_iff.mp (by omega)
    subst h0
    refine ⟨none, 0, fun w => ?_, ⟨⟨by simp, by simp, .inl (by simp)⟩, by simp, fun _ => rfl⟩⟩
    rw [run_slice_lh w 42 none _ 0 slB .i64 .i64 _ _ (by omega) (by omega) (by simp)]
    go_simp
  | some ad, h =>
    refine ⟨some (if c = I then ad else ad.add I), c - I, fun w => ?_, ⟨?_, by rw [List.length_drop, List.length_take]; omega, by simp⟩⟩
    · rw [run_slice_lh w 42 (some ad) _ c slB .i64 .i64 _ _ (by omega) (by omega) (by omega)]
      by_cases h : c = I
      · go_simp
        try (first | rfl | (congr 1; omega))
      · go_simp
        try (first | rfl | (congr 1; omega))
    · refine (h.row.take J).drop I (fun hlt b off e => ?_)
      rw [List.length_take] at hlt
      cases e
      rw [if_neg (by omega), addr_add]

set_option maxRecDepth 10000 in
theorem dGet_any (w : World) (o : Option Addr) (n c : Nat) (b : List Nat) (a K : Nat) (hn : n = b.length) (hr : BRow w o b) (ha : (a : Int) ≤ 1099511627776) (hnb : (n : Int) ≤ 1099511627776) (hK : (K : Int) ≤ 8) :
    Calls Tryz.prog 76 #[.slice o n c, .int .i64 (a : Nat), .int .i64 (K : Nat)] w fun e w' => e = .returned (.int .u64 (getP b a K : Nat)) ∧ w' = w := by
  obtain ⟨hby, hm, hcell⟩ := hr
  rw [← hn] at hm hcell
  have HN : Hid (n = b.length) := hn
  have HBY : Hid (∀ c ∈ b, c < 256) := hby
  clear hn hm hby
  go_enter Tryz.func76, Tryz.ntmps76
  go_wp2_with fail
  go_loop [7, 8] (fun v i => ∃ k : Nat, k ≤ K ∧ i = .int .i64 k ∧ v = .int .u64 (getP b a k : Nat)) (fun _ i => K - (intOf i).toNat)
  case atStart => exact ⟨0, by omega, rfl, rfl⟩
  case round =>
    obtain ⟨k, hk, rfl, rfl⟩ := hrel
    have HV : Hid (getP b a (k + 1) = getP b a k * 256 + b.getD (a + k) 0 ∧ b.getD (a + k) 0 < 256) := ⟨rfl, getD_byt HBY.out _⟩
    have hvl := getP_lt HBY.out a k
    by_cases h2 : k < K
    · have h2' : (k : Int) < K := by omega
      have hv7 : getP b a k < 72057594037927936 := Nat.lt_of_lt_of_le hvl (by have := Nat.pow_le_pow_right (n := 256) (by decide) (show k ≤ 7 by omega); simpa using this)
      generalize getP b a k = v at hvl hv7 HV ⊢
      have hvI : (v : Int) ≤ 72057594037927935 := by omega
      obtain ⟨X, hX⟩ : ∃ X, X = a + k := ⟨_, rfl⟩
      have hXI : (a : Int) + (k : Int) = (X : Int) := by omega
      rw [← hX] at HV
      clear hvl hv7
      by_cases h3 : X < n
      · have h3' : (X : Int) < n := by omega
        rcases hcell with h0 | ⟨q, off, rfl, hc⟩
        · have := HN.out; rw [h0] at this; simp at this; omega
        have hck := hc X h3
        have hxl := HV.out.2
        obtain ⟨x, hxx⟩ : ∃ x, x = b.getD X 0 := ⟨_, rfl⟩
        rw [← hxx] at hck hxl HV
        clear hxx hc hX
        go_wp2_with fail
        go_round
        case rel => exact ⟨k + 1, by omega, by go_num, by rw [HV.out.1]; go_num⟩
        case measure => simp [intOf]; omega
      · have h3' : ¬ (X : Int) < n := by omega
        have hz : b.getD X 0 = 0 := by rw [List.getD_eq_getElem?_getD, List.getElem?_eq_none (by have := HN.out; omega)]; rfl
        have HV2 : Hid (getP b a (k + 1) = v * 256) := by show _ = _; rw [HV.out.1, hz]; omega
        clear hz hX
        go_wp2_with fail
        go_round
        case rel => exact ⟨k + 1, by omega, by go_num, by rw [HV2.out]; go_num⟩
        case measure => simp [intOf]; omega
    · have h2' : ¬ (k : Int) < K := by omega
      obtain rfl : k = K := by omega
      generalize hvv : getP b a k = v
      have HVV : Hid (getP b a k = v) := hvv
      clear hvv
      go_wp2_with fail
      go_ret
      exact ⟨by rw [HVV.out]; rfl, rfl⟩

end Go.Proofs.YtgamhblkgojapaaGreatDoor
/- The document's piece. -/
namespace Go.Proofs.YtgamhblkgojapaaGreatDoor
open Go.RowKit Go.Sort Orl Pk
set_option linter.unusedVariables false
set_option linter.unusedSimpArgs false

/-- what piece tells -/
def PieceTo (w : World) (b : List Nat) (a : Nat) (e : Ending) (w' : World) : Prop :=
  ∃ (s : Tx) (t : Nat), e = .returned (.tuple #[.string s, .int .i64 (t : Nat)]) ∧ Hid (s = text (pieceP b a).1 ∧ t = (pieceP b a).2) ∧ w' = w

set_option maxRecDepth 10000 in
theorem dPiece_any (w : World) (o : Option Addr) (n c : Nat) (b : List Nat) (a : Nat) (hn : n = b.length) (hs : BSl w o c b) (ha : (a : Int) ≤ 549755813888) (hnb : (n : Int) ≤ 1099511627776) :
    Calls Tryz.prog 99 #[.slice o n c, .int .i64 (a : Nat)] w (PieceTo w b a) := by
  have HN : Hid (n = b.length) := hn
  have HGL : Hid (getP b a 4 < 4294967296) := getP_lt hs.row.1 a 4
  have HG : Hid (pieceP b a = ((b.take (min (min (a + 4) n + getP b a 4) n)).drop (min (a + 4) n), a + 4 + getP b a 4)) := by show _ = _; unfold pieceP; rw [hn]
  have HS : Hid (BSl w o c b) := hs
  clear hn hs
  go_enter Tryz.func99, Tryz.ntmps99
  go_wp2_with fail
  refine (dGet_any w o n c b a 4 HN.out HS.out.row (by omega) hnb (by omega)).mono ?_
  rintro e w1 ⟨rfl, hw1⟩
  subst w1
  generalize getP b a 4 = v at HGL HG ⊢
  have hvI : (v : Int) ≤ 4294967295 := by have := HGL.out; omega
  clear HGL
  obtain ⟨F, hF⟩ : ∃ F, F = min (a + 4) n := ⟨_, rfl⟩
  obtain ⟨T, hT⟩ : ∃ T, T = min (F + v) n := ⟨_, rfl⟩
  rw [← hF, ← hT] at HG
  have hFI : min ((a : Int) + 4) (n : Int) = (F : Int) := by omega
  have hTI : min ((F : Int) + (v : Int)) (n : Int) = (T : Int) := by omega
  have hFT : F ≤ T ∧ T ≤ n := by omega
  obtain ⟨A, d, hcut, hslA⟩ := cutLH w o c b n F T HN.out hFT.1 hFT.2 HS.out
  have hFb : (F : Int) ≤ 1099511627776 := by omega
  have hTb : (T : Int) ≤ 1099511627776 := by omega
  have hcv := run_text w A ((b.take T).drop F) (T - F) d (by rw [List.length_drop, List.length_take, ← HN.out]; omega) hslA.row
  clear hF hT hslA hFT
  generalize hTF : T - F = TF at hcut hcv
  have hTFb : (TF : Int) ≤ 1099511627776 := by omega
  clear hTF
  go_wp2_with fail
  go_ret2
  refine ⟨_, a + 4 + v, rfl, ⟨by rw [HG.out], by rw [HG.out]⟩, rfl⟩
theorem owns_len {w : World} {o : Option Addr} {c : Nat} {bs : List Nat} (h : Owns w o c bs) : bs.length ≤ 9223372036854775807 := by
  rcases h.shape with ⟨_, _, rfl⟩ | ⟨g, cur, _, _, h1, h2, _⟩
  · simp
  · unfold maxLen at h2; omega
end Go.Proofs.YtgamhblkgojapaaGreatDoor
/- The document's read. -/
namespace Go.Proofs.YtgamhblkgojapaaGreatDoor
open Go.RowKit Go.Sort Orl Pk
set_option linter.unusedVariables false
set_option linter.unusedSimpArgs false

theorem Own.asideE {α β : Type} {E : El α} {F : El β} (hne : E.e ≠ F.e) {w w' : World} {oa o' o : Option Addr} {ca c : Nat} {xs : List α} {ys : List β} (h : Own F w o c ys) (hO : Own E w oa ca xs) (hap : Ap w oa o' w') : Own F w' o c ys := by
  rcases hap with ⟨rfl, hh⟩ | ⟨_, hh⟩
  · exact h.keeps hh (fun j hj hi => own_ne hne hO h j hi hj)
  · exact h.keepsN hh
theorem own_oneTE (w : World) (x : Tx) : Sl TE (w.alloc (.cells #[.string x] 9)) (some ⟨w.heap.size, 0, none⟩) 1 [x] := by
  refine ⟨.inr ⟨_, _, rfl, fun j u hj => ?_⟩, by simp, fun e => by cases e⟩
  rw [cell_of_blk (blk_new w _), Nat.zero_add]
  simpa [El.cells, TE] using hj
/-- what read holds while it reads: the result B, the record C -/
structure DrS (w : World) (B C : Nat) (cs : Array Value) (wr : World) : Prop where
  kp : Keeps no w wr
  b : wr.heap[B]? = some (.cells #[.int .i64 0, .int .u64 0, .slice none 0 0, .slice none 0 0] 41 (0, 0))
  c : wr.heap[C]? = some (.cells cs 41 (0, 0))
  lt : B = w.heap.size ∧ C = B + 1
theorem DrS.keepsN {w : World} {B C : Nat} {cs : Array Value} {wr w' : World} (h : DrS w B C cs wr) (k : Keeps no wr w') : DrS w B C cs w' :=
  ⟨h.kp.trans k, k.at h.b id, k.at h.c id, h.lt⟩
theorem DrS.set {w : World} {B C : Nat} {cs : Array Value} {wr : World} (h : DrS w B C cs wr) (i : Nat) (v : Value) : DrS w B C (cs.setIfInBounds i v) (wr.setCell ⟨C, i, none⟩ v) ∧ Keeps (eqA C) wr (wr.setCell ⟨C, i, none⟩ v) := by
  have hl := h.lt
  have kS : Keeps (eqA C) wr (wr.setCell ⟨C, i, none⟩ v) := (Keeps.refl (eqA C) wr).setA i v
  exact ⟨⟨h.kp.then kS (fun j hj => .inr (by unfold eqA at hj; omega)), kS.at h.b (by unfold eqA; omega), blk_set h.c i v, h.lt⟩, kS⟩
theorem DrS.ap {w : World} {B C : Nat} {cs : Array Value} {wr w' : World} (h : DrS w B C cs wr) {o o' : Option Addr} (hn : ∀ j, inO o j → C < j) (hap : Ap wr o o' w') : DrS w B C cs w' ∧ ∀ j, inO o' j → C < j := by
  have hl := h.lt
  have hcl := lt_of_block h.c
  rcases hap with ⟨rfl, hh⟩ | ⟨⟨g, rfl, hg⟩, hh⟩
  · exact ⟨⟨h.kp.then hh (fun j hj => .inr (by have := hn j hj; omega)), hh.at h.b (fun hi => by have := hn _ hi; omega), hh.at h.c (fun hi => by have := hn _ hi; omega), h.lt⟩, hn⟩
  · refine ⟨h.keepsN hh, ?_⟩
    rintro j ⟨x, e, rfl⟩
    cases e
    show C < g
    omega
theorem lots_ge {α : Type} {f : Nat → α × Nat} (h : ∀ a, a + 4 ≤ (f a).2) (a : Nat) : ∀ n, a + 4 * n ≤ (lots f a n).2
  | 0 => by simp [lots]
  | n + 1 => by
    have := lots_ge h a n
    have := h (lots f a n).2
    rw [lots]; simp only; omega
theorem lots_mem {α : Type} {f : Nat → α × Nat} (P : α → Prop) (h : ∀ a, P (f a).1) (a : Nat) : ∀ n, ∀ x ∈ (lots f a n).1, P x
  | 0, x, hx => by simp [lots] at hx
  | n + 1, x, hx => by
    simp only [lots, List.mem_append, List.mem_singleton] at hx
    rcases hx with hx | rfl
    · exact lots_mem P h a n x hx
    · exact h _
theorem pair1_ge {b : List Nat} (hb : ∀ c ∈ b, c < 256) (a : Nat) : a + 4 ≤ (pair1 b a).2 ∧ (pair1 b a).2 ≤ a + 8589934600 := by
  have h1 := (pieceP_byt hb a).2.2
  have h2 := (pieceP_byt hb (pieceP b a).2).2.2
  unfold pair1; simp only; omega
theorem key1_ge {b : List Nat} (hb : ∀ c ∈ b, c < 256) (a : Nat) : a + 4 ≤ (key1 b a).2 ∧ (key1 b a).2 ≤ a + 4294967300 := (pieceP_byt hb a).2.2
theorem pair1_size {b : List Nat} (hb : ∀ c ∈ b, c < 256) (hl : b.length ≤ 1048576) (a : Nat) : (pair1 b a).1.1.size ≤ 1048576 ∧ (pair1 b a).1.2.size ≤ 1048576 := by
  have h1 := (pieceP_byt hb a).2.1
  have h2 := (pieceP_byt hb (pieceP b a).2).2.1
  unfold pair1; simp only [text_size]; omega
theorem key1_size {b : List Nat} (hb : ∀ c ∈ b, c < 256) (hl : b.length ≤ 1048576) (a : Nat) : (key1 b a).1.size ≤ 1048576 := by
  have h1 := (pieceP_byt hb a).2.1
  unfold key1; simp only [text_size]; omega
/-- what the document's read tells -/
def DReadTo (w : World) (p : List Nat) (e : Ending) (w' : World) : Prop :=
  ∃ (k : Int) (i : Nat) (op : Option Addr) (np cp : Nat) (ok : Option Addr) (nk ck : Nat), e = .returned (.tuple #[.agg #[.int .i64 k, .int .u64 (i : Nat), .slice op np cp, .slice ok nk ck], .bool (rok p)]) ∧ Hid (Got w w' ⟨k, i, op, np, cp, ok, nk, ck⟩ (if rok p then (rrec p).1 else c0)) ∧ Keeps no w w'
theorem dread_no {w w' : World} {p : List Nat} (h : rok p = false) (hk : Keeps no w w') : DReadTo w p (.returned (.tuple #[.agg #[.int .i64 0, .int .u64 0, .slice none 0 0, .slice none 0 0], .bool false])) w' := by
  refine ⟨0, 0, none, 0, 0, none, 0, 0, by rw [h]; rfl, ?_, hk⟩
  rw [h]
  exact got0 _ _
/-- the record that was read -/
structure Rd (w : World) (B C : Nat) (p : List Nat) (v : CV) (r : Rec) (W : World) : Prop where
  s : DrS w B C #[.int .i64 v.k, .int .u64 (v.i : Nat), .slice v.op v.np v.cp, .slice v.ok v.nk v.ck] W
  g : Got w W v r
  l : Len p r
  n : ∀ j, v.blk j → C < j
/-- what the first loop of read holds: q pairs, up to A -/
structure L1 (w : World) (B C : Nat) (p : List Nat) (K I q A : Nat) (oo : Option Addr) (mo co : Nat) (W : World) : Prop where
  s : DrS w B C #[.int .i64 (K : Nat), .int .u64 (I : Nat), .slice oo mo co, .slice none 0 0] W
  o : Own PE W oo co (lots (pair1 p) 13 q).1
  n : ∀ j, inO oo j → C < j
  a : A = (lots (pair1 p) 13 q).2
  m : mo = q
/-- what the second loop of read holds: q keys, up to A2 -/
structure L2 (w : World) (B C : Nat) (p : List Nat) (K I q A : Nat) (oo : Option Addr) (mo co : Nat) (q2 A2 : Nat) (ok : Option Addr) (mk ck : Nat) (W : World) : Prop where
  s : DrS w B C #[.int .i64 (K : Nat), .int .u64 (I : Nat), .slice oo mo co, .slice ok mk ck] W
  o : Own PE W oo co (lots (pair1 p) 13 q).1
  n : ∀ j, inO oo j → C < j
  o2 : Own TE W ok ck (lots (key1 p) (A + 4) q2).1
  n2 : ∀ j, inO ok j → C < j
  a2 : A2 = (lots (key1 p) (A + 4) q2).2
  m2 : mk = q2
theorem Rd.keepsN {w : World} {B C : Nat} {p : List Nat} {v : CV} {r : Rec} {W W' : World} (h : Rd w B C p v r W) (k : Keeps no W W') : Rd w B C p v r W' := ⟨h.s.keepsN k, h.g.keepsN k, h.l, h.n⟩
theorem rd_of {w : World} {B C : Nat} {p : List Nat} (hb : ∀ c ∈ p, c < 256) (hp : p.length ≤ 1048576) {K I q A : Nat} {oo : Option Addr} {mo co : Nat} {q2 A2 : Nat} {ok : Option Addr} {mk ck : Nat} {W : World} (h : L2 w B C p K I q A oo mo co q2 A2 ok mk ck W) (hA : A = (lots (pair1 p) 13 q).2) (hm : mo = q) (hk : K = 1) (hK : K = getP p 0 1) (hI : I = getP p 1 8)
    (e1 : Ends p (pair1 p) 13 (getP p 9 4) q) (e2 : Ends p (key1 p) (A + 4) (getP p A 4) q2) (hq : q ≤ 1048577) (hq2 : q2 ≤ 1048577) : Rd w B C p ⟨K, I, oo, mo, co, ok, mk, ck⟩ ⟨K, I, (lots (pair1 p) 13 q).1, (lots (key1 p) (A + 4) q2).1⟩ W := by
  have hl := h.s.lt
  have hI8 := getP_lt hb 1 8
  refine ⟨h.s, ⟨rfl, rfl, by simp only [lots_length]; exact hm, by simp only [lots_length]; exact h.m2, h.o, h.o2, fun j hj => by have := h.n j hj; omega, fun j hj => by have := h.n2 j hj; omega, ?_⟩, ?_, fun j hj => hj.elim (h.n j) (h.n2 j)⟩
  · refine ⟨by simp only [lots_length]; omega, fun s hs => ?_, by simp only [lots_length]; omega, fun s hs => ?_, by simp only; omega, by simp only; omega, by simp only; omega⟩
    · have := lots_mem (fun x : Tx => x.size ≤ 1048576) (key1_size hb hp) (A + 4) q2 s hs
      omega
    · have := lots_mem (fun x : Pr => x.1.size ≤ 1048576 ∧ x.2.size ≤ 1048576) (pair1_size hb hp) 13 q s hs
      omega
  · refine ⟨by simp only; omega, hI, fun _ => ⟨q, q2, e1, ?_, rfl, ?_⟩, fun h => absurd (by omega) h⟩
    · rw [← hA]; exact e2
    · simp only; rw [hA]
theorem rd_two {w : World} {B C : Nat} {p : List Nat} (hb : ∀ c ∈ p, c < 256) {K I : Nat} {W : World} (h : DrS w B C #[.int .i64 (K : Nat), .int .u64 (I : Nat), .slice none 0 0, .slice none 0 0] W) (hk : K ≠ 1) (hK : K = getP p 0 1) (hI : I = getP p 1 8) : Rd w B C p ⟨K, I, none, 0, 0, none, 0, 0⟩ ⟨K, I, [], []⟩ W := by
  have hK1 := getP_lt hb 0 1
  have hI8 := getP_lt hb 1 8
  refine ⟨h, ⟨rfl, rfl, rfl, rfl, own_nil _, own_nil _, new_none _, new_none _, ⟨by simp, fun s hs => (by cases hs), by simp, fun s hs => (by cases hs), by simp only; omega, by simp only; omega, by simp only; omega⟩⟩, ?_, fun j hj => by rcases hj with ⟨x, e, _⟩ | ⟨x, e, _⟩ <;> cases e⟩
  exact ⟨by simp only; omega, hI, fun h => absurd (by omega) hk, fun _ => ⟨rfl, rfl⟩⟩

set_option maxRecDepth 10000 in
set_option maxHeartbeats 4000000 in
theorem dRead_any (w : World) (o : Option Addr) (n c : Nat) (p : List Nat) (hn : n = p.length) (hnb : (n : Int) ≤ 1048576) (hs : BSl w o c p) :
    Calls Tryz.prog 77 #[.slice o n c] w (DReadTo w p) := by
  have HN : Hid (n = p.length) := hn
  have HBY : Hid (∀ c ∈ p, c < 256) := hs.row.1
  have HNB : Hid (p.length ≤ 1048576) := by show _ ≤ _; omega
  have kB : Keeps no w (w.alloc (.cells #[.int .i64 0, .int .u64 0, .slice none 0 0, .slice none 0 0] 41)) := (Keeps.refl _ _).alloc _
  have HKB : Hid (Keeps no w (w.alloc (.cells #[.int .i64 0, .int .u64 0, .slice none 0 0, .slice none 0 0] 41))) := kB
  have HS : Hid (∀ w', Keeps no w w' → BSl w' o c p) := fun w' hk => hs.keeps hk (fun _ _ h => h)
  clear hn hs kB
  go_enter Tryz.func77, Tryz.ntmps77
  go_wp2_with fail
  refine (dGet_any _ o n c p 0 1 HN.out (HS.out _ HKB.out).row (by omega) (by omega) (by omega)).mono ?_
  rintro e w1 ⟨rfl, hw1⟩
  subst w1
  have hk1 := getP_lt HBY.out 0 1
  obtain ⟨K, hK⟩ : ∃ K, K = getP p 0 1 := ⟨_, rfl⟩
  rw [← hK] at hk1 ⊢
  have hKb : (K : Int) ≤ 255 := by omega
  have HKP : Hid (K = getP p 0 1) := hK
  clear hk1 hK
  go_wp2_with fail
  refine (dGet_any _ o n c p 1 8 HN.out (HS.out _ HKB.out).row (by omega) (by omega) (by omega)).mono ?_
  rintro e w1 ⟨rfl, hw1⟩
  subst w1
  have hk2 := getP_lt HBY.out 1 8
  obtain ⟨I, hI⟩ : ∃ I, I = getP p 1 8 := ⟨_, rfl⟩
  have HKI : Hid (K = getP p 0 1 ∧ I = getP p 1 8) := ⟨HKP.out, hI⟩
  rw [← hI] at hk2 ⊢
  have HIb : Hid (I < 18446744073709551616) := by show _ < _; omega
  clear hk2 hI HKP
  have HD0 : Hid (DrS w w.heap.size (w.heap.size + 1) #[.int .i64 (K : Nat), .int .u64 (I : Nat), .slice none 0 0, .slice none 0 0] ((w.alloc (.cells #[.int .i64 0, .int .u64 0, .slice none 0 0, .slice none 0 0] 41)).alloc (.cells #[.int .i64 (K : Nat), .int .u64 (I : Nat), .slice none 0 0, .slice none 0 0] 41))) := by
    refine ⟨HKB.out.alloc _, blk_alloc (blk_new w _) _, ?_, rfl, rfl⟩
    have := blk_new (w.alloc (.cells #[.int .i64 0, .int .u64 0, .slice none 0 0, .slice none 0 0] 41)) (.cells #[.int .i64 (K : Nat), .int .u64 (I : Nat), .slice none 0 0, .slice none 0 0] 41)
    simpa using this
  obtain ⟨x0, x1, x2, x3⟩ := cells4 HD0.out.c
  go_upto_if 20 with fail
  obtain ⟨B, hB⟩ : ∃ B, B = w.heap.size := ⟨_, rfl⟩
  obtain ⟨C, hC⟩ : ∃ C, C = B + 1 := ⟨_, rfl⟩
  rw [← hB, ← hC] at HD0 x0 x1 x2 x3
  rw [← hB, ← hC]
  generalize (w.alloc (.cells #[.int .i64 0, .int .u64 0, .slice none 0 0, .slice none 0 0] 41)).alloc (.cells #[.int .i64 (K : Nat), .int .u64 (I : Nat), .slice none 0 0, .slice none 0 0] 41) = W0 at HD0 x0 x1 x2 x3 ⊢
  have HCB : Hid (B = w.heap.size ∧ C = B + 1) := ⟨hB, hC⟩
  clear hB hC HKB
  go_cut [5, 6, 7, 8, 9, 10, 11] from 12 to 83 (fun _ _ _ _ _ _ _ wc => ∃ k i op np cp ok nk ck r, Hid (Rd w B C p ⟨k, i, op, np, cp, ok, nk, ck⟩ r wc))
  case first =>
    by_cases h1 : K = 1
    · have h1b : ((K : Int) == 1) = true := by simp; omega
      have h1c : (K : Int) = 1 := by omega
      have HK1 : Hid (K = 1) := h1
      clear h1
      clear x1 x2 x3
      go_wp2_with fail
      refine (dGet_any W0 o n c p 9 4 HN.out (HS.out _ HD0.out.kp).row (by omega) (by omega) (by omega)).mono ?_
      rintro e w1 ⟨rfl, hw1⟩
      subst w1
      have HNL : Hid (getP p 9 4 < 4294967296) := getP_lt HBY.out 9 4
      obtain ⟨N, hN⟩ : ∃ N, N = getP p 9 4 := ⟨_, rfl⟩
      rw [← hN] at HNL ⊢
      have hNI : (N : Int) ≤ 4294967295 := by have := HNL.out; omega
      have HNP : Hid (N = getP p 9 4) := hN
      clear hN HNL x0
      have HL0 : Hid (L1 w B C p K I 0 13 none 0 0 W0) := ⟨HD0.out, own_nil _, (fun j hj => by obtain ⟨x, e, _⟩ := hj; cases e), rfl, rfl⟩
      go_upto_block 0 with fail
      go_cut [5, 7, 8] from 24 to 54 (fun a _ _ wc => ∃ (q A : Nat) (oo : Option Addr) (mo co : Nat), a = .int .i64 (A : Nat) ∧ (q : Int) ≤ 1048577 ∧ (A : Int) ≤ 17179869184 ∧ Hid (L1 w B C p K I q A oo mo co wc ∧ Ends p (pair1 p) 13 (getP p 9 4) q))
      case first =>
        go_wp2_with fail
        go_loopw [5, 7] (fun a i wr => ∃ (q A : Nat) (oo : Option Addr) (mo co : Nat), a = .int .i64 (A : Nat) ∧ i = .int .i64 (q : Nat) ∧ q ≤ N ∧ (q : Int) ≤ 1048577 ∧ (A : Int) ≤ 17179869184 ∧ Hid (L1 w B C p K I q A oo mo co wr)) (fun _ i _ => N - (intOf i).toNat)
        case atStart => exact ⟨0, 13, none, 0, 0, rfl, rfl, by omega, by omega, by omega, HL0⟩
        case round =>
          rename World => wq
          clear HL0
          obtain ⟨q, A, oo, mo, co, rfl, rfl, hq, hqI, hAI, HL⟩ := hrel
          by_cases hqN : q < N
          · have hqN' : (q : Int) < N := by omega
            have hqNb : decide ((q : Int) < N) = true := decide_eq_true hqN'
            by_cases hAn : A < n
            · have hAn' : (A : Int) < n := by omega
              have hAnb : decide ((A : Int) < n) = true := decide_eq_true hAn'
              have HQA : Hid (q + 13 ≤ A) := by
                show _ ≤ _
                have := lots_ge (f := pair1 p) (fun a => (pair1_ge HBY.out a).1) 13 q
                rw [← HL.out.a] at this; omega
              have hqI2 : (q : Int) + 1 ≤ 1048577 := by have := HQA.out; omega
              have hPI := pair1_ge HBY.out A
              have HST : Hid (lots (pair1 p) 13 (q + 1) = ((lots (pair1 p) 13 q).1 ++ [(pair1 p A).1], (pair1 p A).2)) := by show _ = _; rw [lots, ← HL.out.a]
              have HPU : Hid ((pair1 p A).2 ≤ A + 8589934600) := hPI.2
              have HP1 : Hid ((pieceP p A).2 ≤ A + 4294967300) := (pieceP_byt HBY.out A).2.2.2
              clear hPI
              have kA : Keeps no wq (wq.alloc (.cells #[.string e0, .string e0] 102)) := (Keeps.refl _ _).alloc _
              have HKA : Hid (Keeps no wq (wq.alloc (.cells #[.string e0, .string e0] 102))) := kA
              clear kA
              go_wp2_with fail
              refine (dPiece_any _ o n c p A HN.out (HS.out _ (HL.out.s.kp.trans HKA.out)) (by omega) (by omega)).mono ?_
              rintro e w1 ⟨s1, t1, rfl, hp1, hw1⟩
              subst w1
              have ht1 : (t1 : Int) ≤ 22000000000 := by have := HP1.out; have := hp1.out.2; omega
              go_wp2_with fail
              have HW1 : Hid (Keeps no wq (wq.alloc (.cells #[.string s1, .string e0] 102))) := (Keeps.refl _ _).alloc _
              refine (dPiece_any _ o n c p t1 HN.out (HS.out _ (HL.out.s.kp.trans HW1.out)) (by omega) (by omega)).mono ?_
              rintro e w1 ⟨s2, t2, rfl, hp2, hw1⟩
              subst w1
              have HPR : Hid ((pair1 p A) = ((s1, s2), t2)) := by
                show _ = _
                unfold pair1
                rw [← hp1.out.2, ← hp2.out.1, ← hp2.out.2, ← hp1.out.1]
              have ht2 : (t2 : Int) ≤ 17179869184 := by have := HPU.out; rw [HPR.out] at this; simp only at this; omega
              have HW2 : Hid (Keeps no wq (wq.alloc (.cells #[.string s1, .string s2] 102))) := (Keeps.refl _ _).alloc _
              have hCP : C < wq.heap.size := lt_of_block HL.out.s.c
              have hne1 : ¬ C = wq.heap.size := by omega
              have hne2 : ¬ wq.heap.size = C := by omega
              clear hCP
              obtain ⟨x0, x1, x2, x3⟩ := cells4 HL.out.s.c
              obtain ⟨y0, y1, y2, y3⟩ := cells4 (HL.out.s.keepsN HW1.out).c
              obtain ⟨v0, v1, v2, v3⟩ := cells4 (HL.out.s.keepsN HW2.out).c
              have HN1 : Hid (Sl PE ((wq.alloc (.cells #[.string s1, .string s2] 102)).alloc (.cells #[.string s1, .string s2] 102)) (some ⟨wq.heap.size + 1, 0, none⟩) 1 [(s1, s2)]) := by
                have := own_oneP (wq.alloc (.cells #[.string s1, .string s2] 102)) s1 s2
                simp at this
                exact this
              have HML : Hid (mo = (lots (pair1 p) 13 q).1.length ∧ mo ≤ 1048577) := ⟨by rw [lots_length]; exact HL.out.m, by have := HL.out.m; omega⟩
              have hmoI : (mo : Int) ≤ 1048577 := by have := HML.out; omega
              go_wp2_with (at_builtin; go_must (refine wpList_app okP rfl _ _ rfl oo mo co (lots (pair1 p) 13 q).1 rfl HML.out.1 (HL.out.o.keepsN (HW2.out.alloc _)) _ 1 1 [(s1, s2)] rfl rfl (fun h => by cases h) HN1.out.row (by have := HML.out; simp [PE]; omega) (by have := HML.out; simp; omega) ?_); intro o' c' w' ho hap; have HAP : Hid _ := (HL.out.s.keepsN (HW2.out.alloc (.cells #[.string s1, .string s2] 102))).ap HL.out.n hap; have HO' : Hid (Own PE w' o' c' ((lots (pair1 p) 13 q).1 ++ [(s1, s2)])) := ho; obtain ⟨z0, z1, z2, z3⟩ := cells4 HAP.out.1.c; have fz := frozen_of_blk HAP.out.1.c 2; clear ho hap x0 x1 x2 x3 y0 y1 y2 y3 v0 v1 v2 v3)
              have HSS : Hid _ := HAP.out.1.set 2 (.slice o' (mo + 1) c')
              go_roundw
              case rel =>
                refine ⟨q + 1, t2, o', mo + 1, c', rfl, by go_num, by omega, by omega, by omega, ⟨HSS.out.1, ?_, HAP.out.2, ?_, by have := HL.out.m; omega⟩⟩
                · rw [HST.out, HPR.out]
                  exact HO'.out.keeps HSS.out.2 (fun j hj e => by have := HAP.out.2 j hj; unfold eqA at e; omega)
                · rw [HST.out, HPR.out]
              case measure => simp [intOf]; omega
            · have hAn' : ¬ (A : Int) < n := by omega
              have hAnb : decide ((A : Int) < n) = false := decide_eq_false hAn'
              go_wp2_with fail
              go_meet
              case rel => exact ⟨q, A, oo, mo, co, rfl, hqI, hAI, HL.out, by rw [← HNP.out]; exact hq, .inr (by rw [← HL.out.a, ← HN.out]; omega)⟩
          · have hqN' : ¬ (q : Int) < N := by omega
            have hqNb : decide ((q : Int) < N) = false := decide_eq_false hqN'
            go_wp2_with fail
            go_meet
            case rel => exact ⟨q, A, oo, mo, co, rfl, hqI, hAI, HL.out, by rw [← HNP.out]; exact hq, .inl (by rw [← HNP.out]; omega)⟩
      case rest =>
      obtain ⟨q, A, oo, mo, co, rfl, hqI, hAI, HLE⟩ := hcut
      rename World => w2
      clear HL0 HNP hNI
      go_wp2_with fail
      refine (dGet_any w2 o n c p A 4 HN.out (HS.out _ HLE.out.1.s.kp).row (by omega) (by omega) (by omega)).mono ?_
      rintro e w1 ⟨rfl, hw1⟩
      subst w1
      have HNL : Hid (getP p A 4 < 4294967296) := getP_lt HBY.out A 4
      obtain ⟨N2, hN2⟩ : ∃ N, N = getP p A 4 := ⟨_, rfl⟩
      rw [← hN2] at HNL ⊢
      have hNI : (N2 : Int) ≤ 4294967295 := by have := HNL.out; omega
      have HNP : Hid (N2 = getP p A 4) := hN2
      clear hN2 HNL
      have HL0 : Hid (L2 w B C p K I q A oo mo co 0 (A + 4) none 0 0 w2) := ⟨HLE.out.1.s, HLE.out.1.o, HLE.out.1.n, own_nil _, (fun j hj => by obtain ⟨x, e, _⟩ := hj; cases e), rfl, rfl⟩
      go_upto_block 2 with fail
      go_cut [5, 10, 11] from 61 to 83 (fun _ _ _ wc => ∃ (q2 A2 : Nat) (ok : Option Addr) (mk ck : Nat), (q2 : Int) ≤ 1048577 ∧ Hid (L2 w B C p K I q A oo mo co q2 A2 ok mk ck wc ∧ Ends p (key1 p) (A + 4) (getP p A 4) q2))
      case first =>
        go_wp2_with fail
        go_loopw [5, 10] (fun a i wr => ∃ (q2 A2 : Nat) (ok : Option Addr) (mk ck : Nat), a = .int .i64 (A2 : Nat) ∧ i = .int .i64 (q2 : Nat) ∧ q2 ≤ N2 ∧ (q2 : Int) ≤ 1048577 ∧ (A2 : Int) ≤ 34359738368 ∧ Hid (L2 w B C p K I q A oo mo co q2 A2 ok mk ck wr)) (fun _ i _ => N2 - (intOf i).toNat)
        case atStart => exact ⟨0, A + 4, none, 0, 0, by go_num, rfl, by omega, by omega, by omega, HL0⟩
        case round =>
          rename World => wq
          clear HL0
          obtain ⟨q2, A2, ok, mk, ck, rfl, rfl, hq, hqI2, hAI2, HL⟩ := hrel
          by_cases hqN : q2 < N2
          · have hqN' : (q2 : Int) < N2 := by omega
            have hqNb : decide ((q2 : Int) < N2) = true := decide_eq_true hqN'
            by_cases hAn : A2 < n
            · have hAn' : (A2 : Int) < n := by omega
              have hAnb : decide ((A2 : Int) < n) = true := decide_eq_true hAn'
              have HQA : Hid (q2 ≤ A2) := by
                show _ ≤ _
                have := lots_ge (f := key1 p) (fun a => (key1_ge HBY.out a).1) (A + 4) q2
                rw [← HL.out.a2] at this; omega
              have hqI3 : (q2 : Int) + 1 ≤ 1048577 := by have := HQA.out; omega
              have HST : Hid (lots (key1 p) (A + 4) (q2 + 1) = ((lots (key1 p) (A + 4) q2).1 ++ [(key1 p A2).1], (key1 p A2).2)) := by show _ = _; rw [lots, ← HL.out.a2]
              have HPU : Hid ((pieceP p A2).2 ≤ A2 + 4294967300) := (pieceP_byt HBY.out A2).2.2.2
              go_wp2_with fail
              refine (dPiece_any wq o n c p A2 HN.out (HS.out _ HL.out.s.kp) (by omega) (by omega)).mono ?_
              rintro e w1 ⟨s1, t1, rfl, hp1, hw1⟩
              subst w1
              have HPR : Hid ((key1 p A2) = (s1, t1)) := by
                show _ = _
                unfold key1
                rw [← hp1.out.2, ← hp1.out.1]
              have ht1 : (t1 : Int) ≤ 34359738368 := by have := HPU.out; have := hp1.out.2; omega
              obtain ⟨x0, x1, x2, x3⟩ := cells4 HL.out.s.c
              have HML : Hid (mk = (lots (key1 p) (A + 4) q2).1.length ∧ mk ≤ 1048577) := ⟨by rw [lots_length]; exact HL.out.m2, by have := HL.out.m2; omega⟩
              have hmoI : (mk : Int) ≤ 1048577 := by have := HML.out; omega
              have HWA : Hid (Keeps no wq (wq.alloc (.cells #[.string s1] 9))) := (Keeps.refl _ _).alloc _
              go_wp2_with (at_builtin; go_must (refine wpList_app okT rfl _ _ rfl ok mk ck (lots (key1 p) (A + 4) q2).1 rfl HML.out.1 (HL.out.o2.keepsN HWA.out) _ 1 1 [s1] rfl rfl (fun h => by cases h) (own_oneTE _ s1).row (by have := HML.out; simp [TE]; omega) (by have := HML.out; simp; omega) ?_); intro o' c' w' ho hap; have HAP : Hid _ := (HL.out.s.keepsN HWA.out).ap HL.out.n2 hap; have HOP : Hid (Own PE w' oo co (lots (pair1 p) 13 q).1) := (HL.out.o.keepsN HWA.out).asideE (by decide) (HL.out.o2.keepsN HWA.out) hap; have HO' : Hid (Own TE w' o' c' ((lots (key1 p) (A + 4) q2).1 ++ [s1])) := ho; obtain ⟨z0, z1, z2, z3⟩ := cells4 HAP.out.1.c; have fz := frozen_of_blk HAP.out.1.c 3; clear ho hap x0 x1 x2 x3)
              have HSS : Hid _ := HAP.out.1.set 3 (.slice o' (mk + 1) c')
              go_roundw
              case rel =>
                refine ⟨q2 + 1, t1, o', mk + 1, c', rfl, by go_num, by omega, by omega, by omega, ⟨HSS.out.1, ?_, HL.out.n, ?_, HAP.out.2, ?_, by have := HL.out.m2; omega⟩⟩
                · exact HOP.out.keeps HSS.out.2 (fun j hj e => by have := HL.out.n j hj; unfold eqA at e; omega)
                · rw [HST.out, HPR.out]
                  exact HO'.out.keeps HSS.out.2 (fun j hj e => by have := HAP.out.2 j hj; unfold eqA at e; omega)
                · rw [HST.out, HPR.out]
              case measure => simp [intOf]; omega
            · have hAn' : ¬ (A2 : Int) < n := by omega
              have hAnb : decide ((A2 : Int) < n) = false := decide_eq_false hAn'
              go_wp2_with fail
              go_meet
              case rel => exact ⟨q2, A2, ok, mk, ck, hqI2, HL.out, by rw [← HNP.out]; exact hq, .inr (by rw [← HL.out.a2, ← HN.out]; omega)⟩
          · have hqN' : ¬ (q2 : Int) < N2 := by omega
            have hqNb : decide ((q2 : Int) < N2) = false := decide_eq_false hqN'
            go_wp2_with fail
            go_meet
            case rel => exact ⟨q2, A2, ok, mk, ck, hqI2, HL.out, by rw [← HNP.out]; exact hq, .inl (by rw [← HNP.out]; omega)⟩
      case rest =>
      obtain ⟨q2, A2, ok, mk, ck, hqI2, HL2⟩ := hcut
      rename World => w3
      go_wp2_with fail
      go_meet
      case rel => exact ⟨K, I, oo, mo, co, ok, mk, ck, _, rd_of HBY.out HNB.out HL2.out.1 HLE.out.1.a HLE.out.1.m HK1.out HKI.out.1 HKI.out.2 HLE.out.2 HL2.out.2 (by omega) (by omega)⟩
    · have h1b : ((K : Int) == 1) = false := by simp; omega
      have h1c : ¬ (K : Int) = 1 := by omega
      go_wp2_with fail
      go_meet
      case rel => exact ⟨K, I, none, 0, 0, none, 0, 0, _, rd_two HBY.out HD0.out h1 HKI.out.1 HKI.out.2⟩
  case rest =>
  obtain ⟨k, i, op, np, cp, ok, nk, ck, r, HR⟩ := hcut
  rename World => W
  clear x0 x1 x2 x3 HD0 HKI
  obtain ⟨x0, x1, x2, x3⟩ := cells4 HR.out.s.c
  have HOK : Hid ((rok p = true ↔ may r = true ∧ body r = p) ∧ (rok p = true → (rrec p).1 = r)) := len_rok HBY.out HR.out.l HR.out.g.fit.id
  go_wp2_with fail
  refine (rMay_any W k i op np cp ok nk ck r HR.out.g.isC).mono ?_
  rintro e w5 ⟨rfl, hk5⟩
  have HR5 : Hid (Rd w B C p ⟨k, i, op, np, cp, ok, nk, ck⟩ r w5) := HR.out.keepsN hk5
  clear hk5 x0 x1 x2 x3
  obtain ⟨x0, x1, x2, x3⟩ := cells4 HR5.out.s.c
  obtain ⟨y0, y1, y2, y3⟩ := cells4 HR5.out.s.b
  have f0 := frozen_of_blk HR5.out.s.b 0
  have f1 := frozen_of_blk HR5.out.s.b 1
  have f2 := frozen_of_blk HR5.out.s.b 2
  have f3 := frozen_of_blk HR5.out.s.b 3
  cases hmy : may r
  · have HNO : Hid (rok p = false) := by
      show _ = _
      cases h : rok p
      · rfl
      · have := (HOK.out.1.1 h).1; rw [hmy] at this; cases this
    go_wp2_with fail
    (try simp only [Exit.inBlock, Exit.then])
    have hs4 := set4n (g := B) (by have := HCB.out; omega) HR5.out.s.kp HR5.out.s.b (.int .i64 0) (.int .u64 0) (.slice none 0 0) (.slice none 0 0)
    refine bodyPost_ret (results_row2 rfl _ _ B _ rfl (loadR hs4.1)) rfl ?_
    exact dread_no HNO.out hs4.2
  · have HMY : Hid (may r = true) := hmy
    clear hmy
    obtain ⟨TA, hTA⟩ : ∃ T, T = text (body r) := ⟨_, rfl⟩
    obtain ⟨TB, hTB⟩ : ∃ T, T = text p := ⟨_, rfl⟩
    have HT : Hid (TA = text (body r) ∧ TB = text p) := ⟨hTA, hTB⟩
    have HCV : Hid (∀ w', Keeps no w w' → (convert 42 9 (.slice o n c)).run Tryz.prog w' = .ok (.string TB) w') := fun w' hk => by rw [hTB]; exact run_text w' o p n c HN.out (HS.out w' hk).row
    have hcv0 := HCV.out _ HR5.out.s.kp.drew
    have HBB : Hid (∀ x ∈ body r, x < 256) := body_byt r
    by_cases heq : body r = p
    · have hte : (TA.toList == TB.toList) = true := by rw [hTA, hTB, heq]; simp
      have HYES : Hid (rok p = true ∧ (rrec p).1 = r) := ⟨HOK.out.1.2 ⟨HMY.out, heq⟩, HOK.out.2 (HOK.out.1.2 ⟨HMY.out, heq⟩)⟩
      clear hTA hTB heq
      go_wp2_with fail
      go_region_with ((go_at_call 68; refine (dPayload_any _ k i op np cp ok nk ck r (HR5.out.g.isC.keepsN (Keeps.refl no w5).drew) HMY.out).mono ?_; rintro e w6 ⟨oo, nn, cc, rfl, hnn, hown, hnew, hk6⟩; have HK6 : Hid (Keeps no w5 w6) := (Keeps.refl no w5).drew.trans hk6; have hcv6 := HCV.out _ (HR5.out.s.kp.trans HK6.out); have hcw6 : (convert 42 9 (.slice oo nn cc)).run Tryz.prog w6 = .ok (.string TA) w6 := (by rw [HT.out.1]; exact run_text w6 oo (body r) nn cc hnn.out (hown.row HBB.out (owns_len hown))); obtain ⟨x0, x1, x2, x3⟩ := cells4 (HK6.out.at HR5.out.s.c (fun h => h)); clear hown hnew hk6))
      all_goals
        have HR6 : Hid (Rd w B C p ⟨k, i, op, np, cp, ok, nk, ck⟩ r w6) := HR5.out.keepsN HK6.out
        clear y0 y1 y2 y3 f0 f1 f2 f3
        obtain ⟨x0, x1, x2, x3⟩ := cells4 HR6.out.s.c
        obtain ⟨y0, y1, y2, y3⟩ := cells4 HR6.out.s.b
        have f0 := frozen_of_blk HR6.out.s.b 0
        have f1 := frozen_of_blk HR6.out.s.b 1
        have f2 := frozen_of_blk HR6.out.s.b 2
        have f3 := frozen_of_blk HR6.out.s.b 3
        go_wp2_with fail
        (try simp only [Exit.inBlock, Exit.then])
        have hs4 := set4n (g := B) (by have := HCB.out; omega) HR6.out.s.kp HR6.out.s.b (.int .i64 k) (.int .u64 (i : Nat)) (.slice op np cp) (.slice ok nk ck)
        have hs4' := set4 HR6.out.s.b (.int .i64 k) (.int .u64 (i : Nat)) (.slice op np cp) (.slice ok nk ck)
        refine bodyPost_ret (results_row2 rfl _ _ B _ rfl (loadR hs4.1)) rfl ?_
        have hCB := HCB.out
        refine ⟨k, i, op, np, cp, ok, nk, ck, by rw [HYES.out.1]; rfl, ?_, hs4.2⟩
        rw [HYES.out.1, if_pos rfl, HYES.out.2]
        exact ⟨HR6.out.g.k, HR6.out.g.i, HR6.out.g.np, HR6.out.g.nk, HR6.out.g.ps.keeps hs4'.2 (fun j hj e => by have := HR6.out.n j (.inl hj); unfold eqA at e; omega), HR6.out.g.ks.keeps hs4'.2 (fun j hj e => by have := HR6.out.n j (.inr hj); unfold eqA at e; omega), HR6.out.g.pn, HR6.out.g.kn, HR6.out.g.fit⟩
    · have hte : (TA.toList == TB.toList) = false := by
        rw [tx_eq, hTA, hTB]
        exact decide_eq_false (fun e => heq (by rw [← nats_text (body r) HBB.out, ← nats_text p HBY.out, e]))
      have HNO : Hid (rok p = false) := by
        show _ = _
        cases h : rok p
        · rfl
        · exact absurd (HOK.out.1.1 h).2 heq
      clear hTA hTB heq
      go_wp2_with fail
      go_region_with ((go_at_call 68; refine (dPayload_any _ k i op np cp ok nk ck r (HR5.out.g.isC.keepsN (Keeps.refl no w5).drew) HMY.out).mono ?_; rintro e w6 ⟨oo, nn, cc, rfl, hnn, hown, hnew, hk6⟩; have HK6 : Hid (Keeps no w5 w6) := (Keeps.refl no w5).drew.trans hk6; have hcv6 := HCV.out _ (HR5.out.s.kp.trans HK6.out); have hcw6 : (convert 42 9 (.slice oo nn cc)).run Tryz.prog w6 = .ok (.string TA) w6 := (by rw [HT.out.1]; exact run_text w6 oo (body r) nn cc hnn.out (hown.row HBB.out (owns_len hown))); obtain ⟨x0, x1, x2, x3⟩ := cells4 (HK6.out.at HR5.out.s.c (fun h => h)); clear hown hnew hk6))
      all_goals
        have HR6 : Hid (Rd w B C p ⟨k, i, op, np, cp, ok, nk, ck⟩ r w6) := HR5.out.keepsN HK6.out
        clear y0 y1 y2 y3 f0 f1 f2 f3
        obtain ⟨y0, y1, y2, y3⟩ := cells4 HR6.out.s.b
        have f0 := frozen_of_blk HR6.out.s.b 0
        have f1 := frozen_of_blk HR6.out.s.b 1
        have f2 := frozen_of_blk HR6.out.s.b 2
        have f3 := frozen_of_blk HR6.out.s.b 3
        go_wp2_with fail
        (try simp only [Exit.inBlock, Exit.then])
        have hs4 := set4n (g := B) (by have := HCB.out; omega) HR6.out.s.kp HR6.out.s.b (.int .i64 0) (.int .u64 0) (.slice none 0 0) (.slice none 0 0)
        refine bodyPost_ret (results_row2 rfl _ _ B _ rfl (loadR hs4.1)) rfl ?_
        exact dread_no HNO.out hs4.2
end Go.Proofs.YtgamhblkgojapaaGreatDoor
/- The document's Parse. -/
namespace Go.Proofs.YtgamhblkgojapaaGreatDoor
open Go.RowKit Go.Sort Orl Pk
set_option linter.unusedVariables false
set_option linter.unusedSimpArgs false

set_option maxRecDepth 10000 in
set_option maxHeartbeats 1000000 in
theorem dParse_any (w : World) (o : Option Addr) (n c : Nat) (b : List Nat) (hn : n = b.length) (hnb : (n : Int) ≤ 1099511627776) (hs : BSl w o c b) :
    Calls Tryz.prog 60 #[.slice o n c] w (ParTo w b) := by
  have HN : Hid (n = b.length) := hn
  have HBY : Hid (∀ c ∈ b, c < 256) := hs.row.1
  have kB : Keeps no w (w.alloc (.cells #[.int .i64 0, .int .u64 0, .slice none 0 0, .slice none 0 0] 41)) := (Keeps.refl _ _).alloc _
  have HKB : Hid (Keeps no w (w.alloc (.cells #[.int .i64 0, .int .u64 0, .slice none 0 0, .slice none 0 0] 41))) := kB
  have HS : Hid (∀ w', Keeps no w w' → BSl w' o c b) := fun w' hk => hs.keeps hk (fun _ _ h => h)
  have hB1 := blk_new w (.cells #[.int .i64 0, .int .u64 0, .slice none 0 0, .slice none 0 0] 41)
  have HB1 : Hid ((w.alloc (.cells #[.int .i64 0, .int .u64 0, .slice none 0 0, .slice none 0 0] 41)).heap[w.heap.size]? = some (.cells #[.int .i64 0, .int .u64 0, .slice none 0 0, .slice none 0 0] 41 (0, 0))) := hB1
  clear hn hs kB hB1
  by_cases h8 : n < 8
  · have h8' : (n : Int) < 8 := by omega
    have HP : Hid (parse b = (c0, 0, 91)) := parse_short (by have := HN.out; omega)
    go_enter Tryz.func60, Tryz.ntmps60
    go_wp2_with fail
    (try simp only [Exit.inBlock, Exit.then])
    refine bodyPost_ret (results_row3 rfl _ _ w.heap.size _ rfl (loadR HB1.out)) rfl ?_
    exact parTo_err 91 HP.out (by omega) HKB.out
  have h8' : ¬ (n : Int) < 8 := by omega
  have HB8 : Hid (8 ≤ b.length) := by show 8 ≤ b.length; have := HN.out; omega
  clear h8
  go_enter Tryz.func60, Tryz.ntmps60
  go_wp2_with fail
  refine (dGet_any _ o n c b 0 4 HN.out (HS.out _ HKB.out).row (by omega) (by omega) (by omega)).mono ?_
  rintro e w1 ⟨rfl, hw1⟩
  subst w1
  have HV4 : Hid (getP b 0 4 < 4294967296) := getP_lt HBY.out 0 4
  obtain ⟨V, hV⟩ : ∃ V, V = getP b 0 4 := ⟨_, rfl⟩
  have HV : Hid (V = Pk.val (b.take 4)) := by show _ = _; rw [hV, getP_val b 0 4 (by have := HB8.out; omega)]; rfl
  rw [← hV] at HV4 ⊢
  have hVI : (V : Int) ≤ 4294967295 := by have := HV4.out; omega
  clear hV HV4
  obtain ⟨y0, y1, y2, y3⟩ := cells4 HB1.out
  have f0 := frozen_of_blk HB1.out 0
  have f1 := frozen_of_blk HB1.out 1
  have f2 := frozen_of_blk HB1.out 2
  have f3 := frozen_of_blk HB1.out 3
  obtain ⟨B, hB⟩ : ∃ B, B = w.heap.size := ⟨_, rfl⟩
  have HB : Hid (B = w.heap.size) := hB
  have HWS : Hid (B < (w.alloc (.cells #[.int .i64 0, .int .u64 0, .slice none 0 0, .slice none 0 0] 41)).heap.size) := lt_of_block (by rw [hB]; exact HB1.out)
  rw [← hB] at HB1 y0 y1 y2 y3 f0 f1 f2 f3 ⊢
  generalize w.alloc (.cells #[.int .i64 0, .int .u64 0, .slice none 0 0, .slice none 0 0] 41) = W at HKB HB1 HWS y0 y1 y2 y3 f0 f1 f2 f3 ⊢
  clear hB
  by_cases hv : 1048576 < V
  · have hv' : (V : Int) > 1048576 := by omega
    have HP : Hid (parse b = (c0, 0, 3)) := parse_long HB8.out (by rw [← HV.out]; exact hv)
    clear hv
    go_wp2_with fail
    (try simp only [Exit.inBlock, Exit.then])
    have hs4 := set4n (g := B) (by have := HB.out; omega) HKB.out HB1.out (.int .i64 0) (.int .u64 0) (.slice none 0 0) (.slice none 0 0)
    refine bodyPost_ret (results_row3 rfl _ _ B _ rfl (loadR hs4.1)) rfl ?_
    exact parTo_err 3 HP.out (by omega) hs4.2
  have hv' : ¬ (V : Int) > 1048576 := by omega
  have hv2 : (V : Int) ≤ 1048576 := by omega
  have HVL : Hid (V ≤ 1048576) := by show V ≤ 1048576; omega
  clear hv
  by_cases hl : n - 8 < V
  · have hl' : (n : Int) - 8 < V := by omega
    have HP : Hid (parse b = (c0, 0, 91)) := parse_torn HB8.out (by rw [← HV.out]; exact HVL.out) (by rw [← HV.out, ← HN.out]; exact hl)
    clear hl
    go_wp2_with fail
    (try simp only [Exit.inBlock, Exit.then])
    have hs4 := set4n (g := B) (by have := HB.out; omega) HKB.out HB1.out (.int .i64 0) (.int .u64 0) (.slice none 0 0) (.slice none 0 0)
    refine bodyPost_ret (results_row3 rfl _ _ B _ rfl (loadR hs4.1)) rfl ?_
    exact parTo_err 91 HP.out (by omega) hs4.2
  have hl' : ¬ (n : Int) - 8 < V := by omega
  have HLL : Hid (Pk.val (b.take 4) ≤ b.length - 8) := by show _ ≤ _; rw [← HV.out, ← HN.out]; omega
  have HPAY : Hid ((b.take (8 + V)).drop 8 = pay b ∧ V = (pay b).length) := by
    have e : (b.take (8 + V)).drop 8 = pay b := by unfold pay; rw [List.drop_take, ← HV.out, Nat.add_sub_cancel_left]
    refine ⟨e, ?_⟩
    unfold pay
    rw [List.length_take, List.length_drop, ← HV.out]
    have := HLL.out; have := HV.out; omega
  obtain ⟨A, d, hcut0, hslA⟩ := cutLH W o c b n 8 (8 + V) HN.out (by omega) (by omega) (HS.out _ HKB.out)
  rw [HPAY.out.1] at hslA
  have HSA : Hid (BSl W A d (pay b)) := hslA
  have hcut : ∀ w, (Instr.slice 42 (.slice o n c) (some (.int .i64 8)) (some (.int .i64 (8 + (V : Int)))) none).run Tryz.prog w = .ok (.slice A V d) w := by
    intro w
    have := hcut0 w
    rw [show 8 + V - 8 = V by omega, show ((8 + V : Nat) : Int) = 8 + (V : Int) by omega] at this
    exact this
  clear hl hslA hcut0
  go_wp2_with fail
  refine (dCrc_any W A V d (pay b) HPAY.out.2 HSA.out.row).mono ?_
  rintro e w' ⟨rfl, hw'⟩
  subst w'
  have HSL : Hid (Crc.sum (pay b) < 4294967296) := Crc.update_lt 0 _ (by decide) HSA.out.row.1
  obtain ⟨S, hS⟩ : ∃ S, S = Crc.sum (pay b) := ⟨_, rfl⟩
  rw [← hS] at HSL ⊢
  have HSS : Hid (S = Crc.sum (pay b)) := hS
  have hSI : (S : Int) ≤ 4294967295 := by have := HSL.out; omega
  clear hS HSL
  go_wp2_with fail
  refine (dGet_any W o n c b 4 4 HN.out (HS.out _ HKB.out).row (by omega) (by omega) (by omega)).mono ?_
  rintro e w1 ⟨rfl, hw1⟩
  subst w1
  have HC4 : Hid (getP b 4 4 < 4294967296) := getP_lt HBY.out 4 4
  obtain ⟨D, hD⟩ : ∃ D, D = getP b 4 4 := ⟨_, rfl⟩
  have HD : Hid (D = chk b) := by show _ = _; rw [hD, getP_val b 4 4 (by have := HB8.out; omega)]; rfl
  rw [← hD] at HC4 ⊢
  have hDI : (D : Int) ≤ 4294967295 := by have := HC4.out; omega
  clear hD HC4
  by_cases hsm : S = D
  case neg =>
    have HP : Hid (parse b = (c0, 0, 90)) := parse_sum HB8.out (by rw [← HV.out]; exact HVL.out) HLL.out (by rw [← HD.out, ← HSS.out]; exact hsm)
    have hsm1 : ((S : Int) == (D : Int)) = false := by simp; omega
    have hsm2 : ¬ (S : Int) = (D : Int) := by omega
    clear hsm
    go_wp2_with fail
    (try simp only [Exit.inBlock, Exit.then])
    have hs4 := set4n (g := B) (by have := HB.out; omega) HKB.out HB1.out (.int .i64 0) (.int .u64 0) (.slice none 0 0) (.slice none 0 0)
    refine bodyPost_ret (results_row3 rfl _ _ B _ rfl (loadR hs4.1)) rfl ?_
    exact parTo_err 90 HP.out (by omega) hs4.2
  have HP : Hid (parse b = if rok (pay b) then ((rrec (pay b)).1, 8 + (pay b).length, 0) else (c0, 0, 2)) := parse_rest HB8.out (by rw [← HV.out]; exact HVL.out) HLL.out (by rw [← HD.out, ← HSS.out]; exact hsm)
  subst hsm
  go_wp2_with fail
  refine (dRead_any W A V d (pay b) HPAY.out.2 (by omega) HSA.out).mono ?_
  rintro e w3 ⟨k, i, op, np, cp, ok, nk, ck, rfl, HG, hk3⟩
  have HK3 : Hid (Keeps no W w3) := hk3
  have HB3 : Hid (w3.heap[B]? = some (.cells #[.int .i64 0, .int .u64 0, .slice none 0 0, .slice none 0 0] 41 (0, 0))) := hk3.at HB1.out (fun h => h)
  have HK4 : Hid (Keeps no w3 (w3.alloc (.cells #[.int .i64 k, .int .u64 (i : Nat), .slice op np cp, .slice ok nk ck] 41))) := (Keeps.refl _ _).alloc _
  clear hk3 y0 y1 y2 y3 f0 f1 f2 f3
  have hB4 := HK4.out.at HB3.out (fun h => h)
  have hM4 := blk_new w3 (.cells #[.int .i64 k, .int .u64 (i : Nat), .slice op np cp, .slice ok nk ck] 41)
  have HB4 : Hid (_ = _) := hB4
  obtain ⟨y0, y1, y2, y3⟩ := cells4 hB4
  have f0 := frozen_of_blk hB4 0
  have f1 := frozen_of_blk hB4 1
  have f2 := frozen_of_blk hB4 2
  have f3 := frozen_of_blk hB4 3
  obtain ⟨x0, x1, x2, x3⟩ := cells4 hM4
  clear hB4 hM4
  have hWs := HWS.out
  have HLT : Hid (B < W.heap.size) := HWS.out
  clear hWs
  cases hrk : rok (pay b)
  · have HP2 : Hid (parse b = (c0, 0, 2)) := by show _ = _; rw [HP.out, if_neg (by rw [hrk]; simp)]
    go_wp2_with fail
    (try simp only [Exit.inBlock, Exit.then])
    have hs4 := set4n (g := B) (by have := HB.out; omega) ((HKB.out.trans HK3.out).trans HK4.out) HB4.out (.int .i64 0) (.int .u64 0) (.slice none 0 0) (.slice none 0 0)
    refine bodyPost_ret (results_row3 rfl _ _ B _ rfl (loadR hs4.1)) rfl ?_
    exact parTo_err 2 HP2.out (by omega) hs4.2
  · have HP2 : Hid (parse b = ((rrec (pay b)).1, 8 + (pay b).length, 0)) := by show _ = _; rw [HP.out, if_pos hrk]
    have HG2 : Hid (Got W w3 ⟨k, i, op, np, cp, ok, nk, ck⟩ (rrec (pay b)).1) := by have := HG.out; rw [hrk, if_pos rfl] at this; exact this
    clear HG
    go_wp2_with fail
    (try simp only [Exit.inBlock, Exit.then])
    have hs4 := set4n (g := B) (by have := HB.out; omega) ((HKB.out.trans HK3.out).trans HK4.out) HB4.out (.int .i64 k) (.int .u64 (i : Nat)) (.slice op np cp) (.slice ok nk ck)
    have hs4' := set4 HB4.out (.int .i64 k) (.int .u64 (i : Nat)) (.slice op np cp) (.slice ok nk ck)
    refine bodyPost_ret (results_row3 rfl _ _ B _ rfl (loadR hs4.1)) rfl ?_
    refine ⟨k, i, op, np, cp, ok, nk, ck, 8 + V, 0, rfl, ?_, by omega, by omega, hs4.2⟩
    rw [HP2.out]
    refine ⟨?_, by rw [HPAY.out.2], rfl⟩
    exact ((HG2.out.keepsN HK4.out).keeps hs4'.2 (fun j hj => by unfold eqA at hj; have := HLT.out; omega)).of_le (by have := HLT.out; have := HB.out; omega)
end Go.Proofs.YtgamhblkgojapaaGreatDoor
/- The document's Scan. -/
namespace Go.Proofs.YtgamhblkgojapaaGreatDoor
open Go.RowKit Go.Sort Orl Pk
set_option linter.unusedVariables false
set_option linter.unusedSimpArgs false

set_option maxRecDepth 10000 in
set_option maxHeartbeats 1000000 in
theorem dScan_any (w : World) (o : Option Addr) (n c : Nat) (b : List Nat) (hn : n = b.length) (hnb : (n : Int) ≤ 1099511627776) (hs : BSl w o c b) :
    Calls Tryz.prog 38 #[.slice o n c] w (ScanTo w b) := by
  have HN : Hid (n = b.length) := hn
  clear hn
  go_enter Tryz.func38, Tryz.ntmps38
  go_wp2_with fail
  go_loopw [4, 5] (fun s t wr => ∃ (q : Option Addr) (m d T : Nat) (vs : List CV) (rs : List Rec), s = .slice q m d ∧ t = .int .i64 (T : Nat) ∧ Hid (m = rs.length ∧ Scn w wr q d vs rs ∧ Run b rs T) ∧ T ≤ n ∧ (m : Int) * 8 ≤ T ∧ Hid (Keeps no w wr)) (fun _ t _ => n - (intOf t).toNat)
  case atStart => exact ⟨none, 0, 0, 0, [], [], rfl, rfl, ⟨rfl, scn_nil _ _, Run.nil⟩, by omega, by omega, Keeps.refl _ _⟩
  case round =>
    rename World => wq
    obtain ⟨q, m, d, T, vs, rs, rfl, rfl, HS, hT, hm8, HK⟩ := hrel
    obtain ⟨A, dA, hcut, hslA, _⟩ := cut_l w o c b n T T rfl HN.out hT hs
    have HSA : Hid (BSl wq A dA (b.drop T)) := hslA.keeps HK.out (fun _ _ h => h)
    have HNT : Hid (n - T = (b.drop T).length) := by show _ = _; rw [List.length_drop, ← HN.out]
    obtain ⟨NT, hNT⟩ : ∃ N, N = n - T := ⟨_, rfl⟩
    rw [← hNT] at hcut HNT
    have hNTb : (NT : Int) ≤ 1099511627776 := by omega
    clear hslA hNT
    go_wp2_with fail
    refine (dParse_any wq A NT dA (b.drop T) HNT.out (by omega) HSA.out).mono ?_
    rintro e w2 ⟨k, i, op, np, cp, ok, nk, ck, M, E, rfl, HP, hM, hE, hk2⟩
    have HK2 : Hid (Keeps no wq w2) := hk2
    clear hk2
    have HG := HP.out.1
    by_cases hE0 : E = 0
    · subst hE0
      have HPE : Hid (parse (b.drop T) = ((parse (b.drop T)).1, M, 0)) := by
        show _ = _
        have h1 := HP.out.2.1; have h2 := HP.out.2.2
        rw [h1]
        conv => rhs; rw [h2]
      have hbk := parse_back (byt_drop hs.row.1 T) HPE.out
      have HBK : Hid (8 ≤ M ∧ M ≤ NT) := by
        have h1 := hbk.2.2.2.1; have h2 := hbk.2.2.2.2.1
        rw [enc_length] at h1
        have := HNT.out
        exact ⟨by omega, by omega⟩
      have hMN : M ≤ NT ∧ 8 ≤ M := ⟨HBK.out.2, HBK.out.1⟩
      clear hbk
      have hTM : T + M ≤ n := by have := HNT.out; rw [List.length_drop, ← HN.out] at this; omega
      have HSC : Hid (Scn w wq q d vs rs ∧ m = rs.length ∧ vs.length = rs.length) := ⟨HS.out.2.1, HS.out.1, HS.out.2.1.len⟩
      have hmb : (m : Int) ≤ 137438953472 := by omega
      have k3 : Keeps no w2 (w2.alloc (.cells #[.int .i64 k, .int .u64 (i : Nat), .slice op np cp, .slice ok nk ck] 41)) := (Keeps.refl _ _).alloc _
      have k4 := k3.alloc (.cells #[.int .i64 k, .int .u64 (i : Nat), .slice op np cp, .slice ok nk ck] 41)
      have HO4 : Hid (Own CE ((w2.alloc (.cells #[.int .i64 k, .int .u64 (i : Nat), .slice op np cp, .slice ok nk ck] 41)).alloc (.cells #[.int .i64 k, .int .u64 (i : Nat), .slice op np cp, .slice ok nk ck] 41)) q d vs) := HSC.out.1.own.keepsN (HK2.out.trans k4)
      have HN1 : Hid (Sl CE ((w2.alloc (.cells #[.int .i64 k, .int .u64 (i : Nat), .slice op np cp, .slice ok nk ck] 41)).alloc (.cells #[.int .i64 k, .int .u64 (i : Nat), .slice op np cp, .slice ok nk ck] 41)) (some ⟨w2.heap.size + 1, 0, none⟩) 1 [⟨k, i, op, np, cp, ok, nk, ck⟩]) := by
        have := own_oneC (w2.alloc (.cells #[.int .i64 k, .int .u64 (i : Nat), .slice op np cp, .slice ok nk ck] 41)) ⟨k, i, op, np, cp, ok, nk, ck⟩
        simp at this
        exact this
      have HK4 : Hid (Keeps no w2 ((w2.alloc (.cells #[.int .i64 k, .int .u64 (i : Nat), .slice op np cp, .slice ok nk ck] 41)).alloc (.cells #[.int .i64 k, .int .u64 (i : Nat), .slice op np cp, .slice ok nk ck] 41))) := k4
      clear k3 k4 HG
      go_wp2_with (at_builtin; go_must (refine wpList_app okC rfl _ _ rfl q m d vs rfl (by rw [HSC.out.2.1, HSC.out.2.2]) HO4.out _ _ _ [⟨k, i, op, np, cp, ok, nk, ck⟩] rfl rfl (fun h => by cases h) HN1.out.row (by have := HSC.out.2; simp [CE]; omega) (by have := HSC.out.2; simp; omega) ?_); intro o' c' w' ho hap)
      go_roundw
      case rel =>
        have hkk := HK2.out.trans HK4.out
        refine ⟨o', m + 1, c', T + M, vs ++ [⟨k, i, op, np, cp, ok, nk, ck⟩], rs ++ [(parse (b.drop T)).1], rfl, by go_num, ⟨by simp [HSC.out.2.1], ?_, Run.snoc HS.out.2.2 HPE.out⟩, hTM, by omega, ?_⟩
        · exact HSC.out.1.push HK.out.size (HP.out.1.keepsN HK4.out) hkk ho hap
        · rcases hap with ⟨_, hh⟩ | ⟨_, hh⟩
          · exact (HK.out.trans hkk).then hh (fun j hj => .inr (HSC.out.1.new j hj))
          · exact (HK.out.trans hkk).trans hh
      case measure => simp [intOf]; omega
    · have hE1 : ((E : Int) == 0) = false := by simp; omega
      have hE2 : ¬ (E : Int) = 0 := by omega
      have HPE : Hid ((parse (b.drop T)).2.2 ≠ 0) := by show _ ≠ _; rw [← HP.out.2.2]; exact hE0
      go_wp2_with fail
      go_ret2
      refine ⟨q, m, d, T, vs, rs, rfl, ⟨?_, HS.out.1, HS.out.2.2, HPE.out⟩, by omega, by omega, ?_⟩
      · exact HS.out.2.1.keepsN (HK2.out.alloc _)
      · exact HK.out.trans (HK2.out.alloc _)
end Go.Proofs.YtgamhblkgojapaaGreatDoor
