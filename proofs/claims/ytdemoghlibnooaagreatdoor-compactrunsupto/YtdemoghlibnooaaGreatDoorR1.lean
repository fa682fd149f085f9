import Derived.Test.YtdemoghlibnooaaGreatDoorR0
import Derived.Test.YtdemoghlibnooaaGreatDoorA2
import Derived.Lib.AppendZerosOnto
namespace Go.Proofs.YtdemoghlibnooaaGreatDoor
open Go.RowKit Go.Sort Orl Pk
set_option linter.unusedVariables false
set_option linter.unusedSimpArgs false
theorem index_any (w : World) (a : Option Addr) (n c : Nat) (xs : List Tx) (s : Tx) (hn : n = xs.length) (hs : Sl TE w a c xs) (hb : (n : Int) ≤ 8796093022000) :
    Calls Tryz.prog 141 #[.slice a n c, .string s] w fun e w' => ((s ∈ xs ∧ e = .returned (.int .i64 (idx xs s : Nat))) ∨ (s ∉ xs ∧ e = .returned (.int .i64 (-1)))) ∧ w' = w := by
  have HN : Hid (n = xs.length) := hn
  clear hn
  go_enter Tryz.func141, Tryz.ntmps141
  go_wp2_with fail
  go_loop [5, 8] (fun _ i => ∃ k : Nat, k ≤ n ∧ i = .int .i64 k ∧ Hid (∀ j, j < k → xs.getD j e0 ≠ s)) (fun _ i => n - (intOf i).toNat)
  case atStart => exact ⟨0, by omega, rfl, fun j hj => absurd hj (Nat.not_lt_zero _)⟩
  case round =>
    obtain ⟨k, hk, rfl, HK⟩ := hrel
    by_cases h2 : k < n
    · have hks : k < xs.length := by have := HN.out; omega
      obtain ⟨b, off, rfl, d1⟩ := hs.at hks
      obtain ⟨x, hx⟩ : ∃ x, x = xs.getD k e0 := ⟨_, rfl⟩
      rw [← hx] at d1
      have HX : Hid (x = xs.getD k e0) := hx
      clear hx
      cases hxy : (s.toList == x.toList)
      · go_wp2
        go_round
        case rel =>
          refine ⟨k + 1, by omega, by go_num, fun j hj => ?_⟩
          by_cases e : j = k
          · subst e; rw [← HX.out]
            intro e; subst e; simp at hxy
          · exact HK.out j (by omega)
        case measure => simp [intOf]; omega
      · go_wp2
        go_ret
        rw [tx_eq, decide_eq_true_eq] at hxy
        have he : idx xs s = k := idx_of hks (by rw [← HX.out, hxy]) HK.out
        refine ⟨.inl ⟨idx_lt.1 (by rw [he]; exact hks), by rw [he]; rfl⟩, rfl⟩
    · go_wp2
      go_ret
      refine ⟨.inr ⟨idx_none fun j hj => HK.out j (by have := HN.out; omega), rfl⟩, rfl⟩
theorem mayK_none {l : List Tx} (h : ¬ (1 ≤ l.length ∧ l.length ≤ 1024)) : mayK l = false := by unfold mayK; simp [h]
theorem mayK_long {l : List Tx} {k : Nat} (hk : k < l.length) (h : 65535 < (l.getD k e0).size) : mayK l = false := by
  have : (l.all fun k => decide (k.size ≤ 65535)) = false := by
    rw [List.all_eq_false]
    exact ⟨_, getD_mem_lt e0 hk, by simp at h ⊢; exact h⟩
  unfold mayK; rw [this]; simp
theorem mayK_fall {l : List Tx} {k : Nat} (hk : k + 1 < l.length) (h : lts (l.getD k e0) (l.getD (k + 1) e0) = false) : mayK l = false := by
  unfold mayK; rw [rising_fail (lt := lts) e0 l k hk h]; simp
theorem mayK_of {l : List Tx} (h1 : 1 ≤ l.length) (h2 : l.length ≤ 1024) (h3 : ∀ j, j < l.length → (l.getD j e0).size ≤ 65535) (h4 : ∀ i, i + 1 < l.length → lts (l.getD i e0) (l.getD (i + 1) e0) = true) : mayK l = true := by
  have : (l.all fun k => decide (k.size ≤ 65535)) = true := by
    rw [List.all_eq_true]
    intro x hx
    obtain ⟨j, hj, rfl⟩ := List.getElem_of_mem hx
    have := h3 j hj
    simp [hj] at this
    simpa using this
  unfold mayK; rw [this, rising_of_all (lt := lts) e0 l h4]; simp [h1, h2]
set_option maxRecDepth 10000 in
theorem mayKeys_any (w : World) (a : Option Addr) (n c : Nat) (xs : List Tx) (hn : n = xs.length) (hs : Sl TE w a c xs) (hf : ∀ s ∈ xs, s.size ≤ 140737488351232) :
    Calls Tryz.prog 206 #[.slice a n c] w fun e w' => e = .returned (.bool (mayK xs)) ∧ w' = w := by
  have HN : Hid (n = xs.length) := hn
  clear hn
  by_cases h0 : n = 0
  · subst h0
    have := mayK_none (l := xs) (by have := HN.out; omega)
    rw [this]
    go_enter Tryz.func206, Tryz.ntmps206
    go_wp2
    go_ret
    exact ⟨rfl, rfl⟩
  by_cases h1 : 1024 < n
  · have := mayK_none (l := xs) (by have := HN.out; omega)
    rw [this]
    have h2 : (n : Int) > 1024 := by omega
    have h3 : ¬ (n : Int) = 0 := by omega
    have h3b : ((n : Int) == 0) = false := by simp; omega
    clear h1
    go_enter Tryz.func206, Tryz.ntmps206
    go_wp2
    go_ret
    exact ⟨rfl, rfl⟩
  have h2 : (n : Int) ≤ 1024 := by omega
  have h3 : ¬ (n : Int) = 0 := by omega
  have h3b : ((n : Int) == 0) = false := by simp; omega
  have h2b : decide ((1024 : Int) < n) = false := by simp; omega
  clear h1
  obtain ⟨R, hR⟩ : ∃ R, mayK xs = R := ⟨_, rfl⟩
  have HR : Hid (mayK xs = R) := hR
  rw [hR]
  clear hR
  go_enter Tryz.func206, Tryz.ntmps206
  go_wp2_with fail
  go_loop [3, 4, 15] (fun _ _ i => ∃ k : Nat, k ≤ n ∧ i = .int .i64 k ∧ Hid ((∀ j, j < k → (xs.getD j e0).size ≤ 65535) ∧ ∀ j, j + 1 < k → lts (xs.getD j e0) (xs.getD (j + 1) e0) = true)) (fun _ _ i => n - (intOf i).toNat)
  case atStart => exact ⟨0, by omega, rfl, fun j hj => absurd hj (Nat.not_lt_zero _), fun j hj => absurd hj (Nat.not_lt_zero _)⟩
  case round =>
    obtain ⟨k, hk, rfl, HT⟩ := hrel
    by_cases h4 : k < n
    · have hks : k < xs.length := by have := HN.out; omega
      have hsz := hf _ (getD_mem_lt e0 hks)
      obtain ⟨b, off, rfl, d1⟩ := hs.at hks
      obtain ⟨x, hx⟩ : ∃ x, x = xs.getD k e0 := ⟨_, rfl⟩
      rw [← hx] at d1 hsz
      have HX : Hid (x = xs.getD k e0) := hx
      clear hx
      by_cases hl : 65535 < x.size
      · have hl2 : (x.size : Int) > 65535 := by omega
        have := mayK_long hks (by rw [← HX.out]; exact hl)
        rw [HR.out] at this
        subst this
        go_wp2
        go_ret
        exact ⟨rfl, rfl⟩
      · have hl2 : ¬ (x.size : Int) > 65535 := by omega
        by_cases hk0 : k = 0
        · subst hk0
          rw [Nat.add_zero] at d1
          go_wp2
          go_round
          case rel =>
            refine ⟨1, by omega, by go_num, fun j hj => ?_, fun j hj => by omega⟩
            obtain rfl : j = 0 := by omega
            rw [← HX.out]; omega
          case measure => simp [intOf]; omega
        · obtain ⟨k', rfl⟩ : ∃ k', k = k' + 1 := ⟨k - 1, by omega⟩
          obtain ⟨b2, off2, e2, d2⟩ := hs.at (j := k') (by omega)
          cases e2
          obtain ⟨y, hy⟩ : ∃ y, y = xs.getD k' e0 := ⟨_, rfl⟩
          rw [← hy] at d2
          have HY : Hid (y = xs.getD k' e0) := hy
          clear hy
          have hk1 : ((k' + 1 : Nat) : Int) > 0 := by omega
          have hk2 : ((k' + 1 : Nat) : Int) - 1 = (k' : Int) := by omega
          cases hxy : Op.bytesLess y.toList x.toList
          · have := mayK_fall (l := xs) (k := k') hks (by rw [← HX.out, ← HY.out]; exact hxy)
            rw [HR.out] at this
            subst this
            go_wp2
            go_ret
            exact ⟨rfl, rfl⟩
          · go_wp2
            go_round
            case rel =>
              refine ⟨k' + 1 + 1, by omega, by go_num, fun j hj => ?_, fun j hj => ?_⟩
              · by_cases e : j = k' + 1
                · subst e; rw [← HX.out]; omega
                · exact HT.out.1 j (by omega)
              · by_cases e : j = k'
                · subst e; rw [← HX.out, ← HY.out]; exact hxy
                · exact HT.out.2 j (by omega)
            case measure => simp [intOf]; omega
    · have hkn : k = n := by omega
      have := mayK_of (l := xs) (by have := HN.out; omega) (by have := HN.out; omega) (fun j hj => HT.out.1 j (by have := HN.out; omega)) (fun j hj => HT.out.2 j (by have := HN.out; omega))
      rw [HR.out] at this
      subst this
      go_wp2
      go_ret
      exact ⟨rfl, rfl⟩
theorem slT : Tryz.prog.underlying 45 = some (.slice (Tryz.prog.elem 45)) := by kernel_rfl
theorem cutT_h (w0 : World) (o : Option Addr) (c : Nat) (xs : List Tx) (n I : Nat) (i : Int) (hi : i = (I : Nat)) (hn : n = xs.length) (hI : I ≤ n) (h : Sl TE w0 o c xs) :
    (∀ w, (Instr.slice 45 (.slice o n c) none (some (.int .i64 i)) none).run Tryz.prog w = .ok (.slice o I c) w) ∧ Sl TE w0 o c (xs.take I) := by
  subst hi hn
  have hcap := h.cap
  refine ⟨?_, ⟨h.row.take okT I, by rw [List.length_take]; omega, h.nil⟩⟩
  match o, h with
  | none, h =>
    obtain rfl : c = 0 := h.nil rfl
    intro w
    rw [run_slice_h w 45 none _ 0 slT .i64 _ (by omega) (by omega)]
    obtain rfl : I = 0 := by omega
    go_simp
  | some ad, h =>
    intro w
    rw [run_slice_h w 45 (some ad) _ c slT .i64 _ (by omega) (by omega)]
    go_simp
theorem cutT_l (w0 : World) (o : Option Addr) (c : Nat) (xs : List Tx) (n I : Nat) (i : Int) (hi : i = (I : Nat)) (hn : n = xs.length) (hI : I ≤ n) (h : Sl TE w0 o c xs) :
    ∃ A d, (∀ w, (Instr.slice 45 (.slice o n c) (some (.int .i64 i)) none none).run Tryz.prog w = .ok (.slice A (n - I) d) w) ∧ Sl TE w0 A d (xs.drop I) ∧ SubO o A := by
  subst hi hn
  have hcap := h.cap
  match o, h with
  | none, h =>
    obtain rfl : c = 0 := h.nil rfl
    obtain rfl : I = 0 := by omega
    have h0 : xs = [] := List.length_eq_zero_iff.mp (by omega)
    subst h0
    refine ⟨none, 0, fun w => ?_, ⟨.inl rfl, by simp, fun _ => rfl⟩, fun _ h => h⟩
    rw [run_slice_l w 45 none _ 0 slT .i64 _ (by omega) (by simp)]
    go_simp
  | some ad, h =>
    refine ⟨some (if c = I then ad else ad.add I), c - I, fun w => ?_, ⟨h.row.drop okT I (fun hlt b off e => ?_), by rw [List.length_drop]; omega, by simp⟩, sub_add _ _ _ _⟩
    · rw [run_slice_l w 45 (some ad) _ c slT .i64 _ (by omega) (by omega)]
      by_cases h : c = I
      · go_simp
      · go_simp
    · cases e
      rw [if_neg (by omega), addr_add]
      simp [TE]
theorem walkP_cons {ps : List Pr} {k : Nat} (hk : k < ps.length) (ks : List Tx) : walkP (ps.drop k) ks = (inn ks (ps.getD k p0).1 && (decide ((ps.getD k p0).2.size ≤ 65535) && walkP (ps.drop (k + 1)) (ks.drop (idx ks (ps.getD k p0).1 + 1)))) := by
  rw [List.drop_eq_getElem_cons hk]
  simp only [walkP, List.getD_eq_getElem?_getD, List.getElem?_eq_getElem hk, Option.getD_some]
set_option maxRecDepth 10000 in
theorem mayPairs_any (w : World) (a : Option Addr) (n c : Nat) (ps : List Pr) (hn : n = ps.length) (hs : Sl PE w a c ps) (hf : ∀ p ∈ ps, p.1.size ≤ 140737488351232 ∧ p.2.size ≤ 140737488351232) (hnb : (n : Int) ≤ 4398046511000)
    (a2 : Option Addr) (n2 c2 : Nat) (ks : List Tx) (hn2 : n2 = ks.length) (hs2 : Sl TE w a2 c2 ks) (hkb : (n2 : Int) ≤ 1024) :
    Calls Tryz.prog 207 #[.slice a n c, .slice a2 n2 c2] w fun e w' => e = .returned (.bool (decide (1 ≤ ps.length) && walkP ps ks)) ∧ Keeps no w w' := by
  have HN : Hid (n = ps.length) := hn
  clear hn
  obtain ⟨R, hR⟩ : ∃ R, (decide (1 ≤ ps.length) && walkP ps ks) = R := ⟨_, rfl⟩
  have HR : Hid ((decide (1 ≤ ps.length) && walkP ps ks) = R) := hR
  rw [hR]
  clear hR
  go_enter Tryz.func207, Tryz.ntmps207
  go_wp2_with fail
  go_loopw [1, 6, 7, 10] (fun s _ _ i wr => ∃ k A m d, ∃ L : List Tx, k ≤ n ∧ i = .int .i64 ((k : Nat) : Int) ∧ s = .slice A m d ∧ Hid (m = L.length ∧ Sl TE wr A d L ∧ walkP ps ks = walkP (ps.drop k) L) ∧ (m : Int) ≤ 1024 ∧ Hid (Keeps no w wr)) (fun _ _ _ i _ => n - (intOf i).toNat)
  case atStart => exact ⟨0, a2, n2, c2, ks, by omega, rfl, rfl, ⟨hn2, hs2, rfl⟩, hkb, Keeps.refl _ _⟩
  case round =>
    rename World => wq
    obtain ⟨k, A, m, d, L, hk, rfl, rfl, HL, hmb, HK⟩ := hrel
    by_cases h4 : k < n
    · have hks : k < ps.length := by have := HN.out; omega
      have hsz := hf _ (getD_mem_lt p0 hks)
      have HWC := walkP_cons hks L
      obtain ⟨b, off, rfl, d1, d2⟩ := (hs.keepsN HK.out).atP hks
      generalize ps.getD k p0 = s at d1 d2 hsz HWC
      obtain ⟨s1, s2⟩ := s
      simp only at d1 d2 hsz HWC
      have HW : Hid (walkP (ps.drop k) L = (inn L s1 && (decide (s2.size ≤ 65535) && walkP (ps.drop (k + 1)) (L.drop (idx L s1 + 1))))) := HWC
      clear HWC
      have ka : Keeps no wq (wq.alloc (.cells #[.string s1, .string s2] 85)) := (Keeps.refl _ _).alloc _
      go_wp2_with fail
      refine (index_any _ A m d L s1 HL.out.1 (HL.out.2.1.keepsN ka) (by omega)).mono ?_
      rintro e w2 ⟨⟨hin, rfl⟩ | ⟨hin, rfl⟩, hw2⟩
      · subst w2
        have hidx : idx L s1 + 1 ≤ m := by have := idx_lt.2 hin; have := HL.out.1; omega
        obtain ⟨A2, d2', hrun, hsl2, _⟩ := cutT_l _ A d L m (idx L s1 + 1) (((idx L s1 : Nat) : Int) + 1) (by omega) HL.out.1 hidx (HL.out.2.1.keepsN ka)
        have HI : Hid (inn L s1 = true) := (inn_iff L s1).2 hin
        clear hin
        have hi0 : ¬ ((idx L s1 : Nat) : Int) < 0 := by omega
        have HS2 : Hid (Sl TE (wq.alloc (.cells #[.string s1, .string s2] 85)) A2 d2' (L.drop (idx L s1 + 1))) := hsl2
        clear hsl2
        by_cases hl : 65535 < s2.size
        · have hl2 : (s2.size : Int) > 65535 := by omega
          have : R = false := by rw [← HR.out, HL.out.2.2, HW.out, show decide (s2.size ≤ 65535) = false by simp; omega]; simp
          subst this
          go_wp2_with fail
          go_ret
          exact ⟨rfl, HK.out.trans ka⟩
        · have hl2 : ¬ (s2.size : Int) > 65535 := by omega
          have hib : ((idx L s1 : Nat) : Int) ≤ 1024 := by omega
          generalize hI : idx L s1 = I at hrun hidx HS2 HW hi0 hib ⊢
          clear hI
          go_wp2_with fail
          go_roundw
          case rel =>
            refine ⟨k + 1, A2, m - (I + 1), d2', L.drop (I + 1), by omega, by go_num, rfl, ⟨?_, HS2.out, ?_⟩, by omega, HK.out.trans ka⟩
            · rw [List.length_drop, ← HL.out.1]
            · rw [HL.out.2.2, HW.out, HI.out, show decide (s2.size ≤ 65535) = true by simp; omega]; simp
          case measure => simp [intOf]; omega
      · subst w2
        have : R = false := by rw [← HR.out, HL.out.2.2, HW.out, inn_no hin]; simp
        subst this
        go_wp2_with fail
        go_ret
        exact ⟨rfl, HK.out.trans ka⟩
    · have hkn : k = n := by omega
      have hwk : walkP ps ks = true := by rw [HL.out.2.2, hkn, HN.out, List.drop_length]; rfl
      have hRe : R = decide (1 ≤ n) := by rw [← HR.out, hwk, HN.out]; simp
      have HRE : Hid (R = decide (1 ≤ n)) := hRe
      clear hRe hwk
      by_cases hn0 : n = 0
      · have hn1 : ¬ (n : Int) > 0 := by omega
        go_wp2_with fail
        go_ret
        exact ⟨by rw [HRE.out]; simp [hn0], HK.out⟩
      · have hn1 : (n : Int) > 0 := by omega
        go_wp2_with fail
        go_ret
        exact ⟨by rw [HRE.out]; simp; omega, HK.out⟩
end Go.Proofs.YtdemoghlibnooaaGreatDoor
namespace Go.Proofs.YtdemoghlibnooaaGreatDoor
open Go.RowKit Go.Sort Orl Pk
set_option linter.unusedVariables false
set_option linter.unusedSimpArgs false
theorem may_1 {r : Rec} (h : r.kind = 1) (hi : 65536 ≤ r.id) : may r = (mayK r.keys && (decide (1 ≤ r.pairs.length) && walkP r.pairs r.keys)) := by
  unfold may
  rw [if_pos h, decide_eq_true hi]
  by_cases hk : mayK r.keys = true
  · rw [hk, mayP_walk _ _ (mayK_all hk).2.2.2]; rfl
  · have : mayK r.keys = false := by simpa using hk
    rw [this]; rfl
theorem may_2 {r : Rec} (h : r.kind = 2) (hi : 65536 ≤ r.id) : may r = (decide (r.pairs.length = 0) && decide (r.keys.length = 0)) := by
  unfold may
  rw [if_neg (by rw [h]; decide), if_pos h, decide_eq_true hi]
  simp
theorem may_low {r : Rec} (hi : r.id < 65536) : may r = false := by
  unfold may
  rw [decide_eq_false (by omega)]; rfl
theorem may_else {r : Rec} (h1 : r.kind ≠ 1) (h2 : r.kind ≠ 2) : may r = false := by
  unfold may
  rw [if_neg h1, if_neg h2]; simp
set_option maxRecDepth 10000 in
theorem May_any (w : World) (k : Int) (i : Nat) (op : Option Addr) (np cp : Nat) (ok : Option Addr) (nk ck : Nat) (r : Rec) (h : IsC w ⟨k, i, op, np, cp, ok, nk, ck⟩ r) :
    Calls Tryz.prog 161 #[.agg #[.int .i64 k, .int .u64 (i : Nat), .slice op np cp, .slice ok nk ck]] w fun e w' => e = .returned (.bool (may r)) ∧ Keeps no w w' := by
  have H : Hid (IsC w ⟨k, i, op, np, cp, ok, nk, ck⟩ r) := h
  have ka : Keeps no w (w.alloc (.cells #[.int .i64 k, .int .u64 (i : Nat), .slice op np cp, .slice ok nk ck] 47)) := (Keeps.refl _ _).alloc _
  have hid : i < 18446744073709551616 := by have := h.fit.id; rw [← h.i] at this; exact this
  have hnp : (np : Int) ≤ 4398046511000 := by have := h.fit.plen; have h2 := h.np; simp only at h2; omega
  have hnk : (nk : Int) ≤ 8796093022000 := by have := h.fit.klen; have h2 := h.nk; simp only at h2; omega
  have HI : Hid (i = r.id) := h.i
  have HKD : Hid (k = r.kind) := h.k
  clear h
  obtain ⟨R, hR⟩ : ∃ R, may r = R := ⟨_, rfl⟩
  have HR : Hid (may r = R) := hR
  rw [hR]
  clear hR
  by_cases hlow : i < 65536
  · have hlow2 : (i : Int) < 65536 := by omega
    have : R = false := by rw [← HR.out]; exact may_low (by rw [← HI.out]; exact hlow)
    subst this
    go_enter Tryz.func161, Tryz.ntmps161
    go_wp2_with fail
    go_ret
    exact ⟨rfl, ka⟩
  have hlow2 : ¬ (i : Int) < 65536 := by omega
  have HLOW : Hid (65536 ≤ r.id) := by show 65536 ≤ r.id; have := HI.out; omega
  by_cases h1 : k = 1
  · subst h1
    have hm := may_1 (r := r) HKD.out.symm HLOW.out
    rw [HR.out] at hm
    have HM : Hid (R = (mayK r.keys && (decide (1 ≤ r.pairs.length) && walkP r.pairs r.keys))) := hm
    clear hm
    go_enter Tryz.func161, Tryz.ntmps161
    go_wp2_with fail
    refine (mayKeys_any _ ok nk ck r.keys H.out.nk (H.out.kys.keepsN ka) H.out.fit.keys).mono ?_
    rintro e w2 ⟨rfl, hw2⟩
    subst w2
    cases hmk : mayK r.keys
    · have : R = false := by rw [HM.out, hmk]; rfl
      subst this
      go_wp2_with fail
      go_ret
      exact ⟨rfl, ka⟩
    · have hnk2 : (nk : Int) ≤ 1024 := by have := (mayK_all hmk).1; have h2 := H.out.nk; simp only at h2; omega
      have HMM : Hid (R = (decide (1 ≤ r.pairs.length) && walkP r.pairs r.keys)) := by show _ = _; rw [HM.out, hmk]; rfl
      clear hmk
      go_wp2_with fail
      refine (mayPairs_any _ op np cp r.pairs H.out.np (H.out.prs.keepsN ka) H.out.fit.pairs hnp ok nk ck r.keys H.out.nk (H.out.kys.keepsN ka) hnk2).mono ?_
      rintro e w2 ⟨rfl, hk2⟩
      rw [← HMM.out]
      go_wp2_with fail
      go_ret
      exact ⟨rfl, ka.trans hk2⟩
  · by_cases h2 : k = 2
    · subst h2
      have hm := may_2 (r := r) HKD.out.symm HLOW.out
      rw [HR.out] at hm
      have HM : Hid (R = (decide (np = 0) && decide (nk = 0))) := by
        show _ = _
        have e1 := H.out.np; have e2 := H.out.nk
        simp only at e1 e2
        rw [hm, e1, e2]
      clear hm
      by_cases h3 : np = 0
      · by_cases h4 : nk = 0
        · subst h3; subst h4
          go_enter Tryz.func161, Tryz.ntmps161
          go_wp2_with fail
          go_ret
          exact ⟨by rw [HM.out]; rfl, ka⟩
        · have h4' : ((nk : Int) == 0) = false := by simp; omega
          subst h3
          have : R = false := by rw [HM.out]; simp [h4]
          subst this
          go_enter Tryz.func161, Tryz.ntmps161
          go_wp2_with fail
          go_ret
          exact ⟨rfl, ka⟩
      · have h3' : ((np : Int) == 0) = false := by simp; omega
        have : R = false := by rw [HM.out]; simp [h3]
        subst this
        go_enter Tryz.func161, Tryz.ntmps161
        go_wp2_with fail
        go_ret
        exact ⟨rfl, ka⟩
    · have : R = false := by rw [← HR.out]; exact may_else (by rw [← HKD.out]; exact h1) (by rw [← HKD.out]; exact h2)
      subst this
      have h1b : (k == 1) = false := by simpa using h1
      have h2b : (k == 2) = false := by simpa using h2
      go_enter Tryz.func161, Tryz.ntmps161
      go_wp2_with fail
      go_ret
      exact ⟨rfl, ka⟩
end Go.Proofs.YtdemoghlibnooaaGreatDoor
namespace Go.Proofs.YtdemoghlibnooaaGreatDoor
open Go.RowKit Go.Sort Orl Pk
set_option linter.unusedVariables false
set_option linter.unusedSimpArgs false
end Go.Proofs.YtdemoghlibnooaaGreatDoor
namespace Go.Proofs.YtdemoghlibnooaaGreatDoor
open Go.RowKit Go.Sort Orl Pk
set_option linter.unusedVariables false
set_option linter.unusedSimpArgs false
def hd (p : List Nat) : List Nat := num 4 p.length ++ num 4 (Crc.sum p)
end Go.Proofs.YtdemoghlibnooaaGreatDoor
