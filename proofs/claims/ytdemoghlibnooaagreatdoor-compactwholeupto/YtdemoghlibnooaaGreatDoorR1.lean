import Derived.Test.YtdemoghlibnooaaGreatDoorR0
import Derived.Test.YtdemoghlibnooaaGreatDoorA2
import Derived.Lib.AppendZerosOnto
/- The program's May. -/
namespace Go.Proofs.YtdemoghlibnooaaGreatDoor
open Go.RowKit Go.Sort Orl Pk
set_option linter.unusedVariables false
set_option linter.unusedSimpArgs false

theorem index_any (w : World) (a : Option Addr) (n c : Nat) (xs : List Tx) (s : Tx) (hn : n = xs.length) (hs : Sl TE w a c xs) (hb : (n : Int) ≤ 8796093022000) :
    Calls Tryz.prog 141 #[.slice a n c, .string s] w fun e w' => ((s ∈ xs ∧ e = .returned (.int .i64 (idx xs s : Nat))) ∨ (s ∉ xs ∧ e = .returned (.int .i64 (-1)))) ∧ w' = w := by
  have HN : Hid (n = xs.length) := hn
  clear hn
  go_enter Tryz.func141, Tryz.ntmps141
  go_wp2_with fail
  go_loop [5, 8] (fun _ i => ∃ k : Nat, k ≤ n ∧ i = .int .i64 k ∧ Hid (∀ j, j < k → xs.getD j e0 ≠ s)) (fun _ i => n - (intOf i).toNat)
  case atStart => exact ⟨0, by omega, rfl, fun j hj => absurd hj (Nat.not_lt_zero _)⟩
  case round =>
    obtain ⟨k, hk, rfl, HK⟩ := hrel
    by_cases h2 : k < n
    · have hks : k < xs.length := by have := HN.out; omega
      obtain ⟨b, off, rfl, d1⟩ := hs.at hks
      obtain ⟨x, hx⟩ : ∃ x, x = xs.getD k e0 := ⟨_, rfl⟩
      rw [← hx] at d1
      have HX : Hid (x = xs.getD k e0) := hx
      clear hx
      cases hxy : (s.toList == x.toList)
      · go_wp2
        go_round
        case rel =>
          refine ⟨k + 1, by omega, by go_num, fun j hj => ?_⟩
          by_cases e : j = k
          · subst e; rw [← HX.out]
            intro e; subst e; simp at hxy
          · exact HK.out j (by omega)
        case measure => simp [intOf]; omega
      · go_wp2
        go_ret
        rw [tx_eq, decide_eq_true_eq] at hxy
        have he : idx xs s = k := idx_of hks (by rw [← HX.out, hxy]) HK.out
        refine ⟨.inl ⟨idx_lt.1 (by rw [he]; exact hks), by rw [he]; rfl⟩, rfl⟩
    · go_wp2
      go_ret
      refine ⟨.inr ⟨idx_none fun j hj => HK.out j (by have := HN.out; omega), rfl⟩, rfl⟩

theorem mayK_none {l : List Tx} (h : ¬ (1 ≤ l.length ∧ l.length ≤ 1024)) : mayK l = false := by unfold mayK; simp [h]
theorem mayK_long {l : List Tx} {k : Nat} (hk : k < l.length) (h : 65535 < (l.getD k e0).size) : mayK l = false := by
  have : (l.all fun k => decide (k.size ≤ 65535)) = false := by
    rw [List.all_eq_false]
    exact ⟨_, getD_mem_lt e0 hk, by simp at h ⊢; exact h⟩
  unfold mayK; rw [this]; simp
theorem mayK_fall {l : List Tx} {k : Nat} (hk : k + 1 < l.length) (h : lts (l.getD k e0) (l.getD (k + 1) e0) = false) : mayK l = false := by
  unfold mayK; rw [rising_fail (lt := lts) e0 l k hk h]; simp
theorem mayK_of {l : List Tx} (h1 : 1 ≤ l.length) (h2 : l.length ≤ 1024) (h3 : ∀ j, j < l.length → (l.getD j e0).size ≤ 65535) (h4 : ∀ i, i + 1 < l.length → lts (l.getD i e0) (l.getD (i + 1) e0) = true) : mayK l = true := by
  have : (l.all fun k => decide (k.size ≤ 65535)) = true := by
    rw [List.all_eq_true]
    intro x hx
    obtain ⟨j, hj, rfl⟩ := List.getElem_of_mem hx
    have := h3 j hj
    simp [hj] at this
    simpa using this
  unfold mayK; rw [this, rising_of_all (lt := lts) e0 l h4]; simp [h1, h2]

set_option maxRecDepth 10000 in
theorem mayKeys_any (w : World) (a : Option Addr) (n c : Nat) (xs : List Tx) (hn : n = xs.length) (hs : Sl TE w a c xs) (hf : ∀ s ∈ xs, s.size ≤ 140737488351232) :
    Calls Tryz.prog 206 #[.slice a n c] w fun e w' => e = .returned (.bool (mayK xs)) ∧ w' = w := by
  have HN : Hid (n = xs.length) := hn
  clear hn
  by_cases h0 : n = 0
  · subst h0
    have := mayK_none (l := xs) (by have := HN.out; omega)
    rw [this]
    go_enter Tryz.func206, Tryz.ntmps206
    go_wp2
    go_ret
    exact ⟨rfl, rfl⟩
  by_cases h1 : 1024 < n
  · have := mayK_none (l := xs) (by have := HN.out; omega)
    rw [this]
    have h2 : (n : Int) > 1024 := by omega
    have h3 : ¬ (n : Int) = 0 := by omega
    have h3b : ((n : Int) == 0) = false := by simp; omega
    clear h1
    go_enter Tryz.func206, Tryz.ntmps206
    go_wp2
    go_ret
    exact ⟨rfl, rfl⟩
  have h2 : (n : Int) ≤ 1024 := by omega
  have h3 : ¬ (n : Int) = 0 := by omega
  have h3b : ((n : Int) == 0) = false := by simp; omega
  have h2b : decide ((1024 : Int) < n) = false := by simp; omega
  clear h1
  obtain ⟨R, hR⟩ : ∃ R, mayK xs = R := ⟨_, rfl⟩
  have HR : Hid (mayK xs = R) := hR
  rw [hR]
  clear hR
  go_enter Tryz.func206, Tryz.ntmps206
  go_wp2_with fail
  go_loop [3, 4, 15] (fun _ _ i => ∃ k : Nat, k ≤ n ∧ i = .int .i64 k ∧ Hid ((∀ j, j < k → (xs.getD j e0).size ≤ 65535) ∧ ∀ j, j + 1 < k → lts (xs.getD j e0) (xs.getD (j + 1) e0) = true)) (fun _ _ i => n - (intOf i).toNat)
  case atStart => exact ⟨0, by omega, rfl, fun j hj => absurd hj (Nat.not_lt_zero _), fun j hj => absurd hj (Nat.not_lt_zero _)⟩
  case round =>
    obtain ⟨k, hk, rfl, HT⟩ := hrel
    by_cases h4 : k < n
    · have hks : k < xs.length := by have := HN.out; omega
      have hsz := hf _ (getD_mem_lt e0 hks)
      obtain ⟨b, off, rfl, d1⟩ := hs.at hks
      obtain ⟨x, hx⟩ : ∃ x, x = xs.getD k e0 := ⟨_, rfl⟩
      rw [← hx] at d1 hsz
      have HX : Hid (x = xs.getD k e0) := hx
      clear hx
      by_cases hl : 65535 < x.size
      · have hl2 : (x.size : Int) > 65535 := by omega
        have := mayK_long hks (by rw [← HX.out]; exact hl)
        rw [HR.out] at this
        subst this
        go_wp2
        go_ret
        exact ⟨rfl, rfl⟩
      · have hl2 : ¬ (x.size : Int) > 65535 := by omega
        by_cases hk0 : k = 0
        · subst hk0
          rw [Nat.add_zero] at d1
          go_wp2
          go_round
          case rel =>
            refine ⟨1, by omega, by go_num, fun j hj => ?_, fun j hj => by omega⟩
            obtain rfl : j = 0 := by omega
            rw [← HX.out]; omega
          case measure => simp [intOf]; omega
        · obtain ⟨k', rfl⟩ : ∃ k', k = k' + 1 := ⟨k - 1, by omega⟩
          obtain ⟨b2, off2, e2, d2⟩ := hs.at (j := k') (by omega)
          cases e2
          obtain ⟨y, hy⟩ : ∃ y, y = xs.getD k' e0 := ⟨_, rfl⟩
          rw [← hy] at d2
          have HY : Hid (y = xs.getD k' e0) := hy
          clear hy
          have hk1 : ((k' + 1 : Nat) : Int) > 0 := by omega
          have hk2 : ((k' + 1 : Nat) : Int) - 1 = (k' : Int) := by omega
          cases hxy : Op.bytesLess y.toList x.toList
          · have := mayK_fall (l := xs) (k := k') hks (by rw [← HX.out, ← HY.out]; exact hxy)
            rw [HR.out] at this
            subst this
            go_wp2
            go_ret
            exact ⟨rfl, rfl⟩
          · go_wp2
            go_round
            case rel =>
              refine ⟨k' + 1 + 1, by omega, by go_num, fun j hj => ?_, fun j hj => ?_⟩
              · by_cases e : j = k' + 1
                · subst e; rw [← HX.out]; omega
                · exact HT.out.1 j (by omega)
              · by_cases e : j = k'
                · subst e; rw [← HX.out, ← HY.out]; exact hxy
                · exact HT.out.2 j (by omega)
            case measure => simp [intOf]; omega
    · have hkn : k = n := by omega
      have := mayK_of (l := xs) (by have := HN.out; omega) (by have := HN.out; omega) (fun j hj => HT.out.1 j (by have := HN.out; omega)) (fun j hj => HT.out.2 j (by have := HN.out; omega))
      rw [HR.out] at this
      subst this
      go_wp2
      go_ret
      exact ⟨rfl, rfl⟩

/-! ### pairs -/
theorem slT : Tryz.prog.underlying 45 = some (.slice (Tryz.prog.elem 45)) := by kernel_rfl
theorem slP : Tryz.prog.underlying 44 = some (.slice (Tryz.prog.elem 44)) := by kernel_rfl
theorem cutT_h (w0 : World) (o : Option Addr) (c : Nat) (xs : List Tx) (n I : Nat) (i : Int) (hi : i = (I : Nat)) (hn : n = xs.length) (hI : I ≤ n) (h : Sl TE w0 o c xs) :
    (∀ w, (Instr.slice 45 (.slice o n c) none (some (.int .i64 i)) none).run Tryz.prog w = .ok (.slice o I c) w) ∧ Sl TE w0 o c (xs.take I) := by
  subst hi hn
  have hcap := h.cap
  refine ⟨?_, ⟨h.row.take okT I, by rw [List.length_take]; omega, h.nil⟩⟩
  match o, h with
  | none, h =>
    obtain rfl : c = 0 := h.nil rfl
    intro w
    rw [run_slice_h w 45 none _ 0 slT .i64 _ (by omega) (by omega)]
    obtain rfl : I = 0 := by omega
    go_simp
  | some ad, h =>
    intro w
    rw [run_slice_h w 45 (some ad) _ c slT .i64 _ (by omega) (by omega)]
    go_simp
theorem cutP_h (w0 : World) (o : Option Addr) (c : Nat) (xs : List Pr) (n I : Nat) (i : Int) (hi : i = (I : Nat)) (hn : n = xs.length) (hI : I ≤ n) (h : Sl PE w0 o c xs) :
    (∀ w, (Instr.slice 44 (.slice o n c) none (some (.int .i64 i)) none).run Tryz.prog w = .ok (.slice o I c) w) ∧ Sl PE w0 o c (xs.take I) := by
  subst hi hn
  have hcap := h.cap
  refine ⟨?_, ⟨h.row.take okP I, by rw [List.length_take]; omega, h.nil⟩⟩
  match o, h with
  | none, h =>
    obtain rfl : c = 0 := h.nil rfl
    intro w
    rw [run_slice_h w 44 none _ 0 slP .i64 _ (by omega) (by omega)]
    obtain rfl : I = 0 := by omega
    go_simp
  | some ad, h =>
    intro w
    rw [run_slice_h w 44 (some ad) _ c slP .i64 _ (by omega) (by omega)]
    go_simp
theorem cutT_l (w0 : World) (o : Option Addr) (c : Nat) (xs : List Tx) (n I : Nat) (i : Int) (hi : i = (I : Nat)) (hn : n = xs.length) (hI : I ≤ n) (h : Sl TE w0 o c xs) :
    ∃ A d, (∀ w, (Instr.slice 45 (.slice o n c) (some (.int .i64 i)) none none).run Tryz.prog w = .ok (.slice A (n - I) d) w) ∧ Sl TE w0 A d (xs.drop I) ∧ SubO o A := by
  subst hi hn
  have hcap := h.cap
  match o, h with
  | none, h =>
    obtain rfl : c = 0 := h.nil rfl
    obtain rfl : I = 0 := by omega
    have h0 : xs = [] := List.length_eq_zero_iff.mp (by omega)
    subst h0
    refine ⟨none, 0, fun w => ?_, ⟨.inl rfl, by simp, fun _ => rfl⟩, fun _ h => h⟩
    rw [run_slice_l w 45 none _ 0 slT .i64 _ (by omega) (by simp)]
    go_simp
  | some ad, h =>
    refine ⟨some (if c = I then ad else ad.add I), c - I, fun w => ?_, ⟨h.row.drop okT I (fun hlt b off e => ?_), by rw [List.length_drop]; omega, by simp⟩, sub_add _ _ _ _⟩
    · rw [run_slice_l w 45 (some ad) _ c slT .i64 _ (by omega) (by omega)]
      by_cases h : c = I
      · go_simp
      · go_simp
    · cases e
      rw [if_neg (by omega), addr_add]
      simp [TE]

theorem walkP_cons {ps : List Pr} {k : Nat} (hk : k < ps.length) (ks : List Tx) : walkP (ps.drop k) ks = (inn ks (ps.getD k p0).1 && (decide ((ps.getD k p0).2.size ≤ 65535) && walkP (ps.drop (k + 1)) (ks.drop (idx ks (ps.getD k p0).1 + 1)))) := by
  rw [List.drop_eq_getElem_cons hk]
  simp only [walkP, List.getD_eq_getElem?_getD, List.getElem?_eq_getElem hk, Option.getD_some]

set_option maxRecDepth 10000 in
theorem mayPairs_any (w : World) (a : Option Addr) (n c : Nat) (ps : List Pr) (hn : n = ps.length) (hs : Sl PE w a c ps) (hf : ∀ p ∈ ps, p.1.size ≤ 140737488351232 ∧ p.2.size ≤ 140737488351232) (hnb : (n : Int) ≤ 4398046511000)
    (a2 : Option Addr) (n2 c2 : Nat) (ks : List Tx) (hn2 : n2 = ks.length) (hs2 : Sl TE w a2 c2 ks) (hkb : (n2 : Int) ≤ 1024) :
    Calls Tryz.prog 207 #[.slice a n c, .slice a2 n2 c2] w fun e w' => e = .returned (.bool (decide (1 ≤ ps.length) && walkP ps ks)) ∧ Keeps no w w' := by
  have HN : Hid (n = ps.length) := hn
  clear hn
  obtain ⟨R, hR⟩ : ∃ R, (decide (1 ≤ ps.length) && walkP ps ks) = R := ⟨_, rfl⟩
  have HR : Hid ((decide (1 ≤ ps.length) && walkP ps ks) = R) := hR
  rw [hR]
  clear hR
  go_enter Tryz.func207, Tryz.ntmps207
  go_wp2_with fail
  go_loopw [1, 6, 7, 10] (fun s _ _ i wr => ∃ k A m d, ∃ L : List Tx, k ≤ n ∧ i = .int .i64 ((k : Nat) : Int) ∧ s = .slice A m d ∧ Hid (m = L.length ∧ Sl TE wr A d L ∧ walkP ps ks = walkP (ps.drop k) L) ∧ (m : Int) ≤ 1024 ∧ Hid (Keeps no w wr)) (fun _ _ _ i _ => n - (intOf i).toNat)
  case atStart => exact ⟨0, a2, n2, c2, ks, by omega, rfl, rfl, ⟨hn2, hs2, rfl⟩, hkb, Keeps.refl _ _⟩
  case round =>
    rename World => wq
    obtain ⟨k, A, m, d, L, hk, rfl, rfl, HL, hmb, HK⟩ := hrel
    by_cases h4 : k < n
    · have hks : k < ps.length := by have := HN.out; omega
      have hsz := hf _ (getD_mem_lt p0 hks)
      have HWC := walkP_cons hks L
      obtain ⟨b, off, rfl, d1, d2⟩ := (hs.keepsN HK.out).atP hks
      generalize ps.getD k p0 = s at d1 d2 hsz HWC
      obtain ⟨s1, s2⟩ := s
      simp only at d1 d2 hsz HWC
      have HW : Hid (walkP (ps.drop k) L = (inn L s1 && (decide (s2.size ≤ 65535) && walkP (ps.drop (k + 1)) (L.drop (idx L s1 + 1))))) := HWC
      clear HWC
      have ka : Keeps no wq (wq.alloc (.cells #[.string s1, .string s2] 85)) := (Keeps.refl _ _).alloc _
      go_wp2_with fail
      refine (index_any _ A m d L s1 HL.out.1 (HL.out.2.1.keepsN ka) (by omega)).mono ?_
      rintro e w2 ⟨⟨hin, rfl⟩ | ⟨hin, rfl⟩, hw2⟩
      · subst w2
        have hidx : idx L s1 + 1 ≤ m := by have := idx_lt.2 hin; have := HL.out.1; omega
        obtain ⟨A2, d2', hrun, hsl2, _⟩ := cutT_l _ A d L m (idx L s1 + 1) (((idx L s1 : Nat) : Int) + 1) (by omega) HL.out.1 hidx (HL.out.2.1.keepsN ka)
        have HI : Hid (inn L s1 = true) := (inn_iff L s1).2 hin
        clear hin
        have hi0 : ¬ ((idx L s1 : Nat) : Int) < 0 := by omega
        have HS2 : Hid (Sl TE (wq.alloc (.cells #[.string s1, .string s2] 85)) A2 d2' (L.drop (idx L s1 + 1))) := hsl2
        clear hsl2
        by_cases hl : 65535 < s2.size
        · have hl2 : (s2.size : Int) > 65535 := by omega
          have : R = false := by rw [← HR.out, HL.out.2.2, HW.out, show decide (s2.size ≤ 65535) = false by simp; omega]; simp
          subst this
          go_wp2_with fail
          go_ret
          exact ⟨rfl, HK.out.trans ka⟩
        · have hl2 : ¬ (s2.size : Int) > 65535 := by omega
          have hib : ((idx L s1 : Nat) : Int) ≤ 1024 := by omega
          generalize hI : idx L s1 = I at hrun hidx HS2 HW hi0 hib ⊢
          clear hI
          go_wp2_with fail
          go_roundw
          case rel =>
            refine ⟨k + 1, A2, m - (I + 1), d2', L.drop (I + 1), by omega, by go_num, rfl, ⟨?_, HS2.out, ?_⟩, by omega, HK.out.trans ka⟩
            · rw [List.length_drop, ← HL.out.1]
            · rw [HL.out.2.2, HW.out, HI.out, show decide (s2.size ≤ 65535) = true by simp; omega]; simp
          case measure => simp [intOf]; omega
      · subst w2
        have : R = false := by rw [← HR.out, HL.out.2.2, HW.out, inn_no hin]; simp
        subst this
        go_wp2_with fail
        go_ret
        exact ⟨rfl, HK.out.trans ka⟩
    · have hkn : k = n := by omega
      have hwk : walkP ps ks = true := by rw [HL.out.2.2, hkn, HN.out, List.drop_length]; rfl
      have hRe : R = decide (1 ≤ n) := by rw [← HR.out, hwk, HN.out]; simp
      have HRE : Hid (R = decide (1 ≤ n)) := hRe
      clear hRe hwk
      by_cases hn0 : n = 0
      · have hn1 : ¬ (n : Int) > 0 := by omega
        go_wp2_with fail
        go_ret
        exact ⟨by rw [HRE.out]; simp [hn0], HK.out⟩
      · have hn1 : (n : Int) > 0 := by omega
        go_wp2_with fail
        go_ret
        exact ⟨by rw [HRE.out]; simp; omega, HK.out⟩
end Go.Proofs.YtdemoghlibnooaaGreatDoor
/- The program's May, whole. -/
namespace Go.Proofs.YtdemoghlibnooaaGreatDoor
open Go.RowKit Go.Sort Orl Pk
set_option linter.unusedVariables false
set_option linter.unusedSimpArgs false

theorem may_1 {r : Rec} (h : r.kind = 1) (hi : 65536 ≤ r.id) : may r = (mayK r.keys && (decide (1 ≤ r.pairs.length) && walkP r.pairs r.keys)) := by
  unfold may
  rw [if_pos h, decide_eq_true hi]
  by_cases hk : mayK r.keys = true
  · rw [hk, mayP_walk _ _ (mayK_all hk).2.2.2]; rfl
  · have : mayK r.keys = false := by simpa using hk
    rw [this]; rfl
theorem may_2 {r : Rec} (h : r.kind = 2) (hi : 65536 ≤ r.id) : may r = (decide (r.pairs.length = 0) && decide (r.keys.length = 0)) := by
  unfold may
  rw [if_neg (by rw [h]; decide), if_pos h, decide_eq_true hi]
  simp
theorem may_low {r : Rec} (hi : r.id < 65536) : may r = false := by
  unfold may
  rw [decide_eq_false (by omega)]; rfl
theorem may_else {r : Rec} (h1 : r.kind ≠ 1) (h2 : r.kind ≠ 2) : may r = false := by
  unfold may
  rw [if_neg h1, if_neg h2]; simp

set_option maxRecDepth 10000 in
theorem May_any (w : World) (k : Int) (i : Nat) (op : Option Addr) (np cp : Nat) (ok : Option Addr) (nk ck : Nat) (r : Rec) (h : IsC w ⟨k, i, op, np, cp, ok, nk, ck⟩ r) :
    Calls Tryz.prog 161 #[.agg #[.int .i64 k, .int .u64 (i : Nat), .slice op np cp, .slice ok nk ck]] w fun e w' => e = .returned (.bool (may r)) ∧ Keeps no w w' := by
  have H : Hid (IsC w ⟨k, i, op, np, cp, ok, nk, ck⟩ r) := h
  have ka : Keeps no w (w.alloc (.cells #[.int .i64 k, .int .u64 (i : Nat), .slice op np cp, .slice ok nk ck] 47)) := (Keeps.refl _ _).alloc _
  have hid : i < 18446744073709551616 := by have := h.fit.id; rw [← h.i] at this; exact this
  have hnp : (np : Int) ≤ 4398046511000 := by have := h.fit.plen; have h2 := h.np; simp only at h2; omega
  have hnk : (nk : Int) ≤ 8796093022000 := by have := h.fit.klen; have h2 := h.nk; simp only at h2; omega
  have HI : Hid (i = r.id) := h.i
  have HKD : Hid (k = r.kind) := h.k
  clear h
  obtain ⟨R, hR⟩ : ∃ R, may r = R := ⟨_, rfl⟩
  have HR : Hid (may r = R) := hR
  rw [hR]
  clear hR
  by_cases hlow : i < 65536
  · have hlow2 : (i : Int) < 65536 := by omega
    have : R = false := by rw [← HR.out]; exact may_low (by rw [← HI.out]; exact hlow)
    subst this
    go_enter Tryz.func161, Tryz.ntmps161
    go_wp2_with fail
    go_ret
    exact ⟨rfl, ka⟩
  have hlow2 : ¬ (i : Int) < 65536 := by omega
  have HLOW : Hid (65536 ≤ r.id) := by show 65536 ≤ r.id; have := HI.out; omega
  by_cases h1 : k = 1
  · subst h1
    have hm := may_1 (r := r) HKD.out.symm HLOW.out
    rw [HR.out] at hm
    have HM : Hid (R = (mayK r.keys && (decide (1 ≤ r.pairs.length) && walkP r.pairs r.keys))) := hm
    clear hm
    go_enter Tryz.func161, Tryz.ntmps161
    go_wp2_with fail
    refine (mayKeys_any _ ok nk ck r.keys H.out.nk (H.out.kys.keepsN ka) H.out.fit.keys).mono ?_
    rintro e w2 ⟨rfl, hw2⟩
    subst w2
    cases hmk : mayK r.keys
    · have : R = false := by rw [HM.out, hmk]; rfl
      subst this
      go_wp2_with fail
      go_ret
      exact ⟨rfl, ka⟩
    · have hnk2 : (nk : Int) ≤ 1024 := by have := (mayK_all hmk).1; have h2 := H.out.nk; simp only at h2; omega
      have HMM : Hid (R = (decide (1 ≤ r.pairs.length) && walkP r.pairs r.keys)) := by show _ = _; rw [HM.out, hmk]; rfl
      clear hmk
      go_wp2_with fail
      refine (mayPairs_any _ op np cp r.pairs H.out.np (H.out.prs.keepsN ka) H.out.fit.pairs hnp ok nk ck r.keys H.out.nk (H.out.kys.keepsN ka) hnk2).mono ?_
      rintro e w2 ⟨rfl, hk2⟩
      rw [← HMM.out]
      go_wp2_with fail
      go_ret
      exact ⟨rfl, ka.trans hk2⟩
  · by_cases h2 : k = 2
    · subst h2
      have hm := may_2 (r := r) HKD.out.symm HLOW.out
      rw [HR.out] at hm
      have HM : Hid (R = (decide (np = 0) && decide (nk = 0))) := by
        show _ = _
        have e1 := H.out.np; have e2 := H.out.nk
        simp only at e1 e2
        rw [hm, e1, e2]
      clear hm
      by_cases h3 : np = 0
      · by_cases h4 : nk = 0
        · subst h3; subst h4
          go_enter Tryz.func161, Tryz.ntmps161
          go_wp2_with fail
          go_ret
          exact ⟨by rw [HM.out]; rfl, ka⟩
        · have h4' : ((nk : Int) == 0) = false := by simp; omega
          subst h3
          have : R = false := by rw [HM.out]; simp [h4]
          subst this
          go_enter Tryz.func161, Tryz.ntmps161
          go_wp2_with fail
          go_ret
          exact ⟨rfl, ka⟩
      · have h3' : ((np : Int) == 0) = false := by simp; omega
        have : R = false := by rw [HM.out]; simp [h3]
        subst this
        go_enter Tryz.func161, Tryz.ntmps161
        go_wp2_with fail
        go_ret
        exact ⟨rfl, ka⟩
    · have : R = false := by rw [← HR.out]; exact may_else (by rw [← HKD.out]; exact h1) (by rw [← HKD.out]; exact h2)
      subst this
      have h1b : (k == 1) = false := by simpa using h1
      have h2b : (k == 2) = false := by simpa using h2
      go_enter Tryz.func161, Tryz.ntmps161
      go_wp2_with fail
      go_ret
      exact ⟨rfl, ka⟩
end Go.Proofs.YtdemoghlibnooaaGreatDoor
/- The program's lay; slices.Grow; headOf. -/
namespace Go.Proofs.YtdemoghlibnooaaGreatDoor
open Go.RowKit Go.Sort Orl Pk
set_option linter.unusedVariables false
set_option linter.unusedSimpArgs false

/-- the greatest payload -/
def Lm : Nat := 1048576
theorem hLm : Lm ≤ 140737488355328 := by unfold Lm; omega
/-- what lay leaves: the payload, piece by piece -/
def LaidTo (w : World) (a : Nat) (r : Rec) (w' : World) : Prop := ∃ l : List (List Nat), l.flatten = body r ∧ WStep 266 w a none Lm (lays Lm ([], 0) l) w'

set_option maxRecDepth 10000 in
set_option maxHeartbeats 2000000 in
theorem lay_any (w0 w : World) (a : Nat) (c0 : Nat) (hW : IsW 266 w a none c0 Lm [] 0) (k0 : Keeps no w0 w) (ha : w0.heap.size ≤ a) (k : Int) (i : Nat) (op : Option Addr) (np cp : Nat) (ok : Option Addr) (nk ck : Nat) (r : Rec)
    (h : IsC w0 ⟨k, i, op, np, cp, ok, nk, ck⟩ r) (hm : may r = true) :
    Calls Tryz.prog 162 #[.pointer (some ⟨a, 0, none⟩), .agg #[.int .i64 k, .int .u64 (i : Nat), .slice op np cp, .slice ok nk ck]] w
      fun e w' => e = .returned (.tuple #[]) ∧ LaidTo w a r w' := by
  have H0 : Hid (IsC w0 ⟨k, i, op, np, cp, ok, nk, ck⟩ r) := h
  have H : Hid (IsC w ⟨k, i, op, np, cp, ok, nk, ck⟩ r) := h.keepsN k0
  have hi : i < 18446744073709551616 := by have := h.fit.id; rw [← h.i] at this; exact this
  have HK : Hid (k = r.kind ∧ i = r.id) := ⟨h.k, h.i⟩
  have hp := (may_parts hm).2
  have HAP : Hid (∀ (ol : Option Addr), (∀ j, inO ol j → j < w0.heap.size) → ∀ j, j < w.heap.size → inO ol j → ¬ footW a none j) := by
    intro ol hlt j _ hj hf
    have h1 := hlt j hj
    rcases hf with rfl | ⟨x, e, _⟩
    · omega
    · cases e
  have HST : Hid (WStep 266 w a none Lm ([], 0) (w.alloc (.cells #[.int .i64 k, .int .u64 (i : Nat), .slice op np cp, .slice ok nk ck] 47))) := (WStep.start hW).more ((Keeps.refl no _).alloc _)
  clear h
  rcases hp with ⟨hk, hK, hP⟩ | ⟨hk, hps, hks⟩
  · rw [← HK.out.1] at hk
    subst hk
    obtain ⟨q1, q2, q3, _⟩ := mayK_all hK
    obtain ⟨p1, p2, p3⟩ := mayP_all hK hP
    have hnp : (np : Int) ≤ 1024 := by have e := H0.out.np; simp only at e; omega
    have hnp1 : np ≤ 1024 := by omega
    have hconv : ((np : Int) % 4294967296) = (np : Int) := by omega
    have HTX : Hid (Txs r.keys ∧ r.keys ≠ []) := ⟨⟨q1, q3⟩, fun e => by rw [e] at q2; simp at q2⟩
    have HPX : Hid ((∀ p ∈ r.pairs, p.1.size ≤ 65535 ∧ p.2.size ≤ 65535) ∧ r.pairs ≠ []) := ⟨p3, fun e => by rw [e] at p2; simp at p2⟩
    have HNP : Hid (np = r.pairs.length) := H0.out.np
    have HPS : Hid (∀ j, j < w.heap.size → inO op j → ¬ footW a none j) := HAP.out op (H0.out.prs.lt okP HPX.out.2)
    have HKS : Hid (∀ j, j < w.heap.size → inO ok j → ¬ footW a none j) := HAP.out ok (H0.out.kys.lt okT HTX.out.2)
    clear hK hP q1 q2 q3 p1 p2 p3 HAP hm hW k0 ha
    go_enter Tryz.func162, Tryz.ntmps162
    go_wp2_with fail
    refine (wsU8 hLm HST.out 1 (by omega)).mono ?_
    rintro e w1 ⟨rfl, h1, hst1⟩
    have hb1 := hst1 _ _ _ _ (blk_new w _) (by decide) (by decide)
    obtain ⟨x0, x1, x2, x3⟩ := cells4W hb1
    go_wp2_with fail
    refine (wsU64 hLm h1 i hi).mono ?_
    rintro e w2 ⟨rfl, h2, hst2⟩
    have hb2 := hst2 _ _ _ _ hb1 (by decide) (by decide)
    clear x0 x1 x2 x3 h1 hst1 hb1
    obtain ⟨x0, x1, x2, x3⟩ := cells4W hb2
    go_wp2_with fail
    try rw [hconv]
    refine (wsU32 hLm h2 np (by omega)).mono ?_
    rintro e w3 ⟨rfl, h3, hst3⟩
    have hb3 := hst3 _ _ _ _ hb2 (by decide) (by decide)
    clear x0 x1 x2 x3 h2 hst2 hb2
    obtain ⟨x0, x1, x2, x3⟩ := cells4W hb3
    have H3 : Hid (WStep 266 w a none Lm (lays Lm ([], 0) [num 1 1, num 8 i, num 4 np]) w3) := h3
    clear h3
    go_wp2_with fail
    go_loopw [27] (fun i' wr => ∃ q : Nat, q ≤ np ∧ i' = .int .i64 q ∧ Hid (WStep 266 w a none Lm (lays Lm ([], 0) ([num 1 1, num 8 i, num 4 np] ++ chP (r.pairs.take q))) wr) ∧ Hid (Stay w3 wr)) (fun i' _ => np - (intOf i').toNat)
    case atStart => exact ⟨0, by omega, rfl, H3.out, fun _ _ _ _ h _ _ => h⟩
    case round =>
      rename World => wq
      obtain ⟨q, hq, rfl, HW, HS3⟩ := hrel
      by_cases hqn : q < np
      · have hks : q < r.pairs.length := by have := HNP.out; omega
        have hlt := H.out.prs.lt okP HPX.out.2
        obtain ⟨b, off, e, c1, c2⟩ := (H.out.prs.keeps HW.out.keeps (fun j hj => HPS.out j (hlt j hj) hj)).atP hks
        simp only at e
        subst e
        have hsz := HPX.out.1 _ (getD_mem_lt p0 hks)
        have HSN : Hid (chP (r.pairs.take (q + 1)) = chP (r.pairs.take q) ++ [txt (nats (r.pairs.getD q p0).1)] ++ [txt (nats (r.pairs.getD q p0).2)]) := chP_snoc r.pairs q hks
        generalize r.pairs.getD q p0 = s at c1 c2 hsz HSN
        obtain ⟨s1, s2⟩ := s
        simp only at c1 c2 hsz HSN
        go_wp2_with fail
        refine (wsText hLm (HW.out.more ((Keeps.refl no _).alloc _)) s1 hsz.1).mono ?_
        rintro e w4 ⟨rfl, h4, hst4⟩
        have hb : w4.heap[wq.heap.size]? = some (.cells #[.string s1, .string s2] 85 (0, 0)) := hst4 _ _ _ _ (blk_new wq _) (by decide) (by decide)
        have d1 : w4.cell? ⟨wq.heap.size, 1, none⟩ = some (.string s2) := cell_of_blk hb 1
        go_wp2_with fail
        refine (wsText hLm h4 s2 hsz.2).mono ?_
        rintro e w5 ⟨rfl, h5, hst5⟩
        go_wp2_with fail
        go_roundw
        case rel =>
          refine ⟨q + 1, by omega, by go_num, ?_, ((HS3.out.trans (Stay.of_keeps ((Keeps.refl no _).alloc _))).trans hst4).trans hst5⟩
          show WStep _ _ _ _ _ _ _
          rw [HSN.out, ← List.append_assoc, ← List.append_assoc, lays_snoc, lays_snoc]
          exact h5
        case measure => simp [intOf]; omega
      · have hqe : q = np := by omega
        have hb4 := HS3.out _ _ _ _ hb3 (by decide) (by decide)
        have y3 : wq.cell? ⟨w.heap.size, 3, none⟩ = some (.slice ok nk ck) := cell_of_blk hb4 3
        go_wp2_with fail
        refine (wsTexts hLm HW.out ok nk ck r.keys H.out.nk HTX.out.1 HTX.out.2 H.out.kys HKS.out).mono ?_
        rintro e w5 ⟨rfl, h5, hst5⟩
        go_wp2_with fail
        go_end0
        refine ⟨rfl, [num 1 1, num 8 i, num 4 np] ++ chP r.pairs ++ [txts (natss r.keys)], ?_, ?_⟩
        · unfold body layF
          rw [← HK.out.1, if_pos rfl, ← HK.out.2, ← HNP.out, List.flatten_append, List.flatten_append, chP_flat]
          simp
        · rw [lays_snoc]
          rw [hqe, HNP.out, List.take_length] at h5
          rw [HNP.out]
          exact h5
  · rw [← HK.out.1] at hk
    subst hk
    clear HAP hm hW k0 ha
    go_enter Tryz.func162, Tryz.ntmps162
    go_wp2_with fail
    refine (wsU8 hLm HST.out 2 (by omega)).mono ?_
    rintro e w1 ⟨rfl, h1, hst1⟩
    have hb1 := hst1 _ _ _ _ (blk_new w _) (by decide) (by decide)
    obtain ⟨x0, x1, x2, x3⟩ := cells4W hb1
    go_wp2_with fail
    refine (wsU64 hLm h1 i hi).mono ?_
    rintro e w2 ⟨rfl, h2, hst2⟩
    have hb2 := hst2 _ _ _ _ hb1 (by decide) (by decide)
    clear x0 x1 x2 x3 h1 hst1 hb1
    obtain ⟨x0, x1, x2, x3⟩ := cells4W hb2
    go_wp2_with fail
    refine bodyPost_ret (results_none rfl _ _ _) rfl ?_
    refine ⟨rfl, [num 1 2, num 8 i], ?_, h2⟩
    unfold body layF
    rw [← HK.out.1, if_neg (by decide), ← HK.out.2]
    simp

/-! ### slices.Grow of bytes -/
set_option maxRecDepth 10000 in
theorem grow_any (w : World) (g : Nat) (n c : Nat) (bs : List Nat) (m : Nat) (hn : n = bs.length) (hO : Owns w (some ⟨g, 0, none⟩) c bs) (hm : (m : Int) ≤ 1048576) (hnb : (n : Int) ≤ 8) :
    Calls Tryz.prog 208 #[.slice (some ⟨g, 0, none⟩) n c, .int .i64 (m : Nat)] w fun e w' => ∃ o' c', e = .returned (.slice o' n c') ∧ Owns w' o' c' bs ∧ Fresh w (some ⟨g, 0, none⟩) o' ∧ Keeps no w w' := by
  obtain ⟨i0, hi, hz0, hz1, hz2⟩ := info_parts info5
  rcases hO.shape with ⟨e, _⟩ | ⟨g', cur, e, hg, hlc, hcm, hcs, htk⟩
  · cases e
  · cases e
    have hc63 : (c : Int) ≤ 9223372036854775807 := by unfold maxLen at hcm; omega
    have hnc : n ≤ c := by omega
    have h1 : ¬ ((m : Int) < 0) := by omega
    have h2 : wrap64 ((c : Int) - (n : Int)) = (c : Int) - (n : Int) := by unfold wrap64; omega
    have h3 : wrap64 ((m : Int) - ((c : Int) - (n : Int))) = (m : Int) - ((c : Int) - (n : Int)) := by unfold wrap64; omega
    by_cases hroom : n + m ≤ c
    · have h4 : ¬ ((m : Int) - ((c : Int) - (n : Int)) > 0) := by omega
      clear hcm hcs htk hg hlc
      have HO : Hid (Owns w (some ⟨g, 0, none⟩) c bs) := hO
      clear hO hn
      go_enter Tryz.func208, Tryz.ntmps208
      go_wp2
      go_ret
      exact ⟨_, _, rfl, HO.out, .inl rfl, Keeps.refl _ _⟩
    · have h4 : (m : Int) - ((c : Int) - (n : Int)) > 0 := by omega
      have hck : c + (n + m - c) = n + m := by omega
      have hold : (Builtin.firstCells i0.size c (.slice (some ⟨g, 0, none⟩) c c)).run Tryz.prog w.drew = .ok cur.toList.toArray w.drew :=
        run_firstCells_some w.drew i0.size c ⟨g, 0, none⟩ c c cur.toList (by rw [hz1]; simp [hcs]) (fun j v hj => by
          rw [addr_add, Nat.zero_add]
          show w.cell? _ = _
          rw [cell_of_blk hg, ← Array.getElem?_toList]; exact hj)
      have hrz : ∀ ty, (Builtin.append_ #[29, 3] ty #[.slice (some ⟨g, 0, none⟩) c c, .int .i64 ((m : Int) - ((c : Int) - (n : Int)))]).run Tryz.prog w =
          .ok (.slice (some ⟨w.heap.size, 0, none⟩) (n + m) (grownCap w (n + m) c 5)) (w.drew.alloc (.cells (cur.toList.toArray ++ Builtin.zeroCells (Value.int .u8 0).cells (n + m - c) ++ Builtin.zeroCells (Value.int .u8 0).cells (grownCap w (n + m) c 5 - (n + m))) 5)) := fun ty => by
        have h := Lib.run_append_grow_zeros w 29 3 ty 5 i0 _ .i64 .i64 Tryz.underlying29 Tryz.underlying3 hi hz0 (some ⟨g, 0, none⟩) c c cur.toList hold (n + m - c) (by omega) (by rw [hz1]; decide) (by omega) (by omega)
          (by rw [hz2]; omega)
          (by rw [hck, hz2]; exact growslice_fits (by omega) (by omega))
        rw [hck] at h
        rw [show (m : Int) - ((c : Int) - (n : Int)) = ((n + m - c : Nat) : Int) by omega]
        exact h
      have hGn : n + m ≤ grownCap w (n + m) c 5 := grownCap_ge w _ _ _
      obtain ⟨G, hG⟩ : ∃ G, G = grownCap w (n + m) c 5 := ⟨_, rfl⟩
      rw [← hG] at hrz hGn
      have hGm : G ≤ maxLen := by
        have := grownCap_le_maxLen w (n + m) c 5 (by unfold maxLen; omega)
        rw [← hG] at this
        exact this
      have hG63 : (G : Int) ≤ 9223372036854775807 := by unfold maxLen at hGm; omega
      have HNEW : Hid (Owns (w.drew.alloc (.cells (cur.toList.toArray ++ Builtin.zeroCells (Value.int .u8 0).cells (n + m - c) ++ Builtin.zeroCells (Value.int .u8 0).cells (G - (n + m))) 5)) (some ⟨w.heap.size, 0, none⟩) G bs) := by
        refine ⟨by simp [vals], .inr ⟨w.heap.size, G, _, rfl, Nat.zero_le _, blk_new w.drew _, by omega, hGm, ?_, ?_⟩⟩
        · simp only [Array.size_append, size_zeroCells, hcs, Value.cells]
          simp
          omega
        · simp only [Array.toList_append, List.toList_toArray]
          rw [List.append_assoc, List.take_append_of_le_length (by simp [hcs]; omega)]
          simpa using htk
      generalize Obj.cells (cur.toList.toArray ++ Builtin.zeroCells (Value.int .u8 0).cells (n + m - c) ++ Builtin.zeroCells (Value.int .u8 0).cells (G - (n + m))) 5 = OB at hrz HNEW
      clear hold hck hG hg hcs htk hlc hcm hGm hroom hn hO
      go_enter Tryz.func208, Tryz.ntmps208
      go_wp2_with (at_builtin; refine Lib.wpList_append_run _ rfl _ _ _ _ rfl _ _ rfl rfl _ _ (hrz _) ?_)
      go_ret
      exact ⟨_, _, rfl, HNEW.out, .inr ⟨_, rfl, Nat.le_refl _⟩, ((Keeps.refl _ w).drew).alloc _⟩
end Go.Proofs.YtdemoghlibnooaaGreatDoor
/- The program's headOf and Build. -/
namespace Go.Proofs.YtdemoghlibnooaaGreatDoor
open Go.RowKit Go.Sort Orl Pk
set_option linter.unusedVariables false
set_option linter.unusedSimpArgs false

def hd (p : List Nat) : List Nat := num 4 p.length ++ num 4 (Crc.sum p)
theorem hd_length (p : List Nat) : (hd p).length = 8 := by unfold hd; rw [List.length_append, num_length, num_length]
theorem newW (w : World) : Calls Tryz.prog 143 #[.int .i64 8] w fun e w' => e = .returned (.pointer (some ⟨w.heap.size, 0, none⟩)) ∧ IsW 266 w' w.heap.size none 0 8 [] 0 ∧ Keeps no w w' :=
  newWriter_any 8 w (by omega) (by omega)
theorem newWriter_at (w : World) : Calls Tryz.prog 143 #[.int .i64 1048576] w fun e w' => e = .returned (.pointer (some ⟨w.heap.size, 0, none⟩)) ∧ IsW 266 w' w.heap.size none 0 Lm [] 0 ∧ Keeps no w w' :=
  newWriter_any 1048576 w (by omega) (by omega)

set_option maxRecDepth 10000 in
theorem headOf_any (w : World) (o : Option Addr) (n c : Nat) (p : List Nat) (hn : n = p.length) (hO : BRow w o p) (hnb : (n : Int) ≤ 1048576) (ht : TabIn w) :
    Calls Tryz.prog 163 #[.slice o n c] w fun e w' => ∃ o' c', e = .returned (.slice o' 8 c') ∧ Owns w' o' c' (hd p) ∧ New w o' ∧ Keeps no w w' := by
  have HN : Hid (n = p.length) := hn
  have hconv : ((n : Int) % 4294967296) = (n : Int) := by omega
  have hslt : Crc.sum p < 4294967296 := Crc.update_lt 0 _ (by decide) hO.1
  have h8 : (8 : Nat) ≤ 140737488355328 := by omega
  clear hn
  go_enter Tryz.func163, Tryz.ntmps163
  go_wp2_with fail
  refine (newW w).mono ?_
  rintro e w1 ⟨rfl, hW1, hk1⟩
  have HK1 : Hid (Keeps no w w1) := hk1
  go_wp2_with fail
  try rw [hconv]
  refine (wsU32 h8 (WStep.start hW1) n (by omega)).mono ?_
  rintro e w2 ⟨rfl, h2, _⟩
  have hk2 : Keeps no w w2 := hk1.then h2.keeps (by
    rintro j (rfl | ⟨x, e, _⟩)
    · exact .inr (Nat.le_refl _)
    · cases e)
  have HK2 : Hid (Keeps no w w2) := hk2
  have H2 : Hid (WStep 266 w1 w.heap.size none 8 (num 4 n, 0) w2) := by
    have : lay 8 ([], 0) (num 4 n) = (num 4 n, 0) := by rw [lay_fits _ _ _ (by rw [num_length]; simp)]; simp
    rw [this] at h2; exact h2
  have HT2 : Hid (TabIn w2) := ht.keepsN hk2
  have HR2 : Hid (BRow w2 o p) := hO.keeps hk2 (fun _ _ h => h)
  clear h2 hW1 hk1 hk2
  go_wp2_with fail
  refine (sum_any o n p c HN.out w2 HT2.out HR2.out).mono ?_
  rintro e w' ⟨rfl, hw'⟩
  subst w'
  obtain ⟨S, hS⟩ : ∃ S, S = Crc.sum p := ⟨_, rfl⟩
  rw [← hS] at hslt ⊢
  have HS : Hid (S = Crc.sum p) := hS
  clear hS
  go_wp2_with fail
  refine (wsU32 h8 H2.out S hslt).mono ?_
  rintro e w3 ⟨rfl, h3, _⟩
  have HW3 : Hid (WStep 266 w1 w.heap.size none 8 (hd p, 0) w3) := by
    have : lay 8 (num 4 n, 0) (num 4 S) = (hd p, 0) := by rw [lay_fits _ _ _ (by rw [num_length, num_length]; omega), HN.out, HS.out]; rfl
    rw [this] at h3; exact h3
  clear h3
  obtain ⟨o3, c3, hW3, hF3, hK3⟩ := HW3.out
  have HK3 : Hid (Keeps no w w3) := HK1.out.then hK3 (by
    rintro j (rfl | ⟨x, e, _⟩)
    · exact .inr (Nat.le_refl _)
    · cases e)
  clear HW3 hF3 hK3
  go_wp2_with fail
  refine (wOut_any w3 _ o3 c3 8 _ _ hW3).mono ?_
  rintro e w4 ⟨hk4, ⟨he, rfl⟩ | ⟨he, o4, c4, rfl, hown4, hnew4⟩⟩
  · exact absurd rfl he
  · rw [hd_length]
    obtain ⟨g, rfl⟩ : ∃ g, o4 = some ⟨g, 0, none⟩ := by
      rcases hown4.shape with ⟨_, _, e⟩ | ⟨g, _, e, _⟩
      · have := hd_length p; rw [e] at this; simp at this
      · exact ⟨g, e⟩
    have HO4 : Hid (Owns w4 (some ⟨g, 0, none⟩) c4 (hd p)) := hown4
    have HK4 : Hid (Keeps no w w4) := HK3.out.trans hk4
    have HG : Hid (w.heap.size ≤ g) := Nat.le_trans HK3.out.size (hnew4 g ⟨_, rfl, rfl⟩)
    clear hown4 hW3 hnew4 hk4 he
    go_wp2_with fail
    refine (grow_any w4 g 8 c4 (hd p) n (by rw [hd_length]) HO4.out hnb (by omega)).mono ?_
    rintro e w5 ⟨o5, c5, rfl, hown5, hfr5, hk5⟩
    go_wp2_with fail
    go_ret
    refine ⟨o5, c5, rfl, hown5, ?_, HK4.out.trans hk5⟩
    rcases hfr5 with rfl | ⟨g', rfl, hg'⟩
    · rintro k ⟨x, e, rfl⟩; cases e; exact HG.out
    · rintro k ⟨x, e, rfl⟩; cases e; exact Nat.le_trans HK4.out.size hg'

def encE (r : Rec) : Nat := if may r = true then (if (body r).length ≤ 1048576 then 0 else 3) else 1
def encB (r : Rec) : List Nat := if encE r = 0 then enc r else []
theorem encE_bad {m : Rec} (h : may m = false) : encE m = 1 ∧ encB m = [] := by
  have : encE m = 1 := by unfold encE; rw [if_neg (by rw [h]; simp)]
  exact ⟨this, by unfold encB; rw [if_neg (by omega)]⟩
theorem encE_long {m : Rec} (h : may m = true) (hl : 1048576 < (body m).length) : encE m = 3 ∧ encB m = [] := by
  have : encE m = 3 := by unfold encE; rw [if_pos h, if_neg (by omega)]
  exact ⟨this, by unfold encB; rw [if_neg (by omega)]⟩
theorem encE_ok {m : Rec} (h : may m = true) (hl : (body m).length ≤ 1048576) : encE m = 0 ∧ encB m = enc m := by
  have : encE m = 0 := by unfold encE; rw [if_pos h, if_pos hl]
  exact ⟨this, by unfold encB; rw [if_pos this]⟩
/-- bytes told with an error, in new memory -/
def TellsB (w : World) (bs : List Nat) (E : Nat) (e : Ending) (w' : World) : Prop :=
  ∃ o n c, e = .returned (.tuple #[.slice o n c, .int .i64 (E : Nat)]) ∧ Hid (n = bs.length) ∧ Owns w' o c bs ∧ New w o ∧ Keeps no w w'

set_option maxRecDepth 10000 in
theorem Build_any (w : World) (k : Int) (i : Nat) (op : Option Addr) (np cp : Nat) (ok : Option Addr) (nk ck : Nat) (r : Rec) (h : IsC w ⟨k, i, op, np, cp, ok, nk, ck⟩ r) (ht : TabIn w) :
    Calls Tryz.prog 108 #[.agg #[.int .i64 k, .int .u64 (i : Nat), .slice op np cp, .slice ok nk ck]] w (TellsB w (encB r) (encE r)) := by
  have H : Hid (IsC w ⟨k, i, op, np, cp, ok, nk, ck⟩ r) := h
  clear h
  have hk0 : Keeps no w (w.alloc (.cells #[.int .i64 k, .int .u64 (i : Nat), .slice op np cp, .slice ok nk ck] 47)) := (Keeps.refl _ _).alloc _
  by_cases hm : may r = true
  · go_enter Tryz.func108, Tryz.ntmps108
    go_wp2_with fail
    refine (May_any _ k i op np cp ok nk ck r (H.out.keepsN hk0)).mono ?_
    rintro e w1 ⟨rfl, hk1⟩
    rw [hm]
    have HM : Hid (may r = true) := hm
    clear hm
    have hb1 := hk1.at (blk_new w _) (fun h => h)
    have hk01 := hk0.trans hk1
    go_wp2_with fail
    refine (newWriter_at w1).mono ?_
    rintro e w2 ⟨rfl, hW, hk2⟩
    have hb2 := hk2.at hb1 (fun h => h)
    obtain ⟨x0, x1, x2, x3⟩ := cells4W hb2
    go_wp2_with fail
    refine (lay_any w1 w2 w1.heap.size 0 hW hk2 (Nat.le_refl _) k i op np cp ok nk ck r (H.out.keepsN hk01) HM.out).mono ?_
    rintro e w3 ⟨rfl, l, hl, hw3⟩
    clear x0 x1 x2 x3 hb1 hb2 hW
    obtain ⟨o3, c3, hW3, hF3, hK3⟩ := hw3
    have hk3 : Keeps no w w3 := (hk01.trans hk2).then hK3 (by
      rintro j (rfl | ⟨x, e, _⟩)
      · exact .inr hk01.size
      · cases e)
    go_wp2_with fail
    refine (wOut_any w3 _ o3 c3 Lm _ _ hW3).mono ?_
    rintro e w4 ⟨hk4, ⟨he, rfl⟩ | ⟨he, o4, c4, rfl, hown4, hnew4⟩⟩
    · have hlong : Lm < (body r).length := by
        rcases Nat.lt_or_ge Lm (body r).length with h | h
        · exact h
        · rw [lays_all Lm l [] (by rw [hl]; simpa using h)] at he
          exact absurd rfl he
      have h3 : (lays Lm ([], 0) l).2 = 3 := lays_long Lm l [] (by simp) (by rw [hl]; simpa using hlong)
      rw [h3]
      obtain ⟨e1, e2⟩ := encE_long HM.out (by unfold Lm at hlong; exact hlong)
      have HE1 : Hid (encE r = 3 ∧ encB r = []) := ⟨e1, e2⟩
      clear hlong h3 he e1 e2 hW3 hl hK3 hF3
      go_wp2_with fail
      go_ret2
      refine ⟨none, 0, 0, ?_, ?_, ?_, new_none _, hk3.trans hk4⟩
      · rw [HE1.out.1]; rfl
      · show _ = _; rw [HE1.out.2]; rfl
      · rw [HE1.out.2]; exact owns_nil _
    · have hfit : (body r).length ≤ Lm := by
        rcases Nat.lt_or_ge Lm (body r).length with h | h
        · have := lays_long Lm l [] (by simp) (by rw [hl]; simpa using h)
          rw [this] at he; cases he
        · exact h
      have hst : lays Lm ([], 0) l = (body r, 0) := by rw [lays_all Lm l [] (by rw [hl]; simpa using hfit), hl]; rfl
      rw [hst] at hown4 ⊢
      simp only at hown4 ⊢
      obtain ⟨e1, e2⟩ := encE_ok HM.out (by unfold Lm at hfit; exact hfit)
      have HE1 : Hid (encE r = 0 ∧ encB r = enc r) := ⟨e1, e2⟩
      obtain ⟨n4, hn4⟩ : ∃ n, n = (body r).length := ⟨_, rfl⟩
      rw [← hn4]
      have HN4 : Hid (n4 = (body r).length) := hn4
      have hn4b : (n4 : Int) ≤ 1048576 := by unfold Lm at hfit; omega
      have HO4 : Hid (Owns w4 o4 c4 (body r)) := hown4
      have HK4 : Hid (Keeps no w w4) := hk3.trans hk4
      have HR4 : Hid (BRow w4 o4 (body r)) := HO4.out.row (body_byt r) (by have := HN4.out; omega)
      clear hfit hst he e1 e2 hW3 hl hK3 hF3 hn4 hown4 hk0 hk1 hk01 hk2 hk3 hk4 hnew4
      go_wp2_with fail
      refine (headOf_any w4 o4 n4 c4 (body r) HN4.out HR4.out hn4b (ht.keepsN HK4.out)).mono ?_
      rintro e w5 ⟨o5, c5, rfl, hown5, hnew5, hk5⟩
      have HO5 : Hid (Owns w5 o5 c5 (hd (body r))) := hown5
      have HK5 : Hid (New w o5 ∧ Keeps no w w5) := ⟨hnew5.of_le HK4.out.size, HK4.out.trans hk5⟩
      have HR5 : Hid (BRow w5 o4 (body r)) := HR4.out.keeps hk5 (fun _ _ h => h)
      clear hown5 hnew5 hk5
      go_wp2_with (at_builtin; go_must (refine wpList_appB rfl _ _ rfl o5 8 c5 (hd (body r)) rfl (hd_length _).symm HO5.out o4 n4 c4 (body r) rfl HN4.out HO4.out.cap.2 HR5.out (by omega) ?_); intro o6 c6 w6 ho6 hfr6 hk6)
      go_ret2
      have hx := hfr6.new hk6 HK5.out.1 HK5.out.2
      have ee : hd (body r) ++ body r = enc r := by unfold hd enc; rw [List.append_assoc]
      rw [ee] at ho6
      refine ⟨o6, 8 + n4, c6, ?_, ?_, ?_, hx.1, hx.2⟩
      · rw [HE1.out.1]; rfl
      · show _ = _; rw [HE1.out.2, enc_length, HN4.out]; omega
      · rw [HE1.out.2]; exact ho6
  · have hm' : may r = false := by simpa using hm
    have HE1 : Hid (encE r = 1 ∧ encB r = []) := encE_bad hm'
    go_enter Tryz.func108, Tryz.ntmps108
    go_wp2_with fail
    refine (May_any _ k i op np cp ok nk ck r (H.out.keepsN hk0)).mono ?_
    rintro e w1 ⟨rfl, hk1⟩
    rw [hm']
    go_wp2_with fail
    go_ret2
    refine ⟨none, 0, 0, ?_, ?_, ?_, new_none _, hk0.trans hk1⟩
    · rw [HE1.out.1]; rfl
    · show _ = _; rw [HE1.out.2]; rfl
    · rw [HE1.out.2]; exact owns_nil _
end Go.Proofs.YtdemoghlibnooaaGreatDoor
