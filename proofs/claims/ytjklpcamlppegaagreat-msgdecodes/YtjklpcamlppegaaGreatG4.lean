import Derived.Test.YtjklpcamlppegaaGreatS3
/- The document's May: lists of keys. -/
namespace Go.Proofs.YtjklpcamlppegaaGreat
open Go.RowKit Go.Sort Orl Pk
set_option linter.unusedVariables false
set_option linter.unusedSimpArgs false

set_option maxRecDepth 10000 in
theorem refRising_any (w : World) (a : Option Addr) (n c : Nat) (xs : List Tx) (hn : n = xs.length) (hl : Small xs) (hs : Sl TE w a c xs) :
    Calls Tryz.prog 99 #[.slice a n c] w fun e w' => e = .returned (.bool (rising lts xs)) ∧ Keeps no w w' := by
  have HA : Hid (n = xs.length) := hn
  have hA : (n : Int) ≤ 100000 := by unfold Small at hl; omega
  clear hn hl
  obtain ⟨R, hR⟩ : ∃ R, rising lts xs = R := ⟨_, rfl⟩
  have HR : Hid (rising lts xs = R) := hR
  rw [hR]
  clear hR
  go_enter Tryz.func99, Tryz.ntmps99
  go_wp2_with fail
  go_loopw [3] (fun i wr => ∃ k m : Nat, k ≤ n ∧ i = .int .i64 ((k : Int) + 1) ∧ wr = w.drewN m ∧ Hid (∀ j, j < k → j + 1 < xs.length → lts (xs.getD j e0) (xs.getD (j + 1) e0) = true)) (fun i _ => n + 1 - (intOf i).toNat)
  case atStart => exact ⟨0, 0, by omega, rfl, rfl, fun j hj => absurd hj (Nat.not_lt_zero _)⟩
  case round =>
    obtain ⟨k, m, hk, rfl, rfl, HT⟩ := hrel
    by_cases h2 : k + 1 < n
    · have hka : k + 1 < xs.length := by have := HA.out; omega
      obtain ⟨b1, off1, rfl, d1⟩ := hs.at (j := k) (by omega)
      obtain ⟨b2, off2, e2, d2⟩ := hs.at hka
      cases e2
      obtain ⟨x, hx⟩ : ∃ x, x = xs.getD k e0 := ⟨_, rfl⟩
      obtain ⟨y, hy⟩ : ∃ y, y = xs.getD (k + 1) e0 := ⟨_, rfl⟩
      rw [← hx] at d1
      rw [← hy] at d2
      have HX : Hid (x = xs.getD k e0) := hx
      have HY : Hid (y = xs.getD (k + 1) e0) := hy
      clear hx hy hka
      have h3 : (k : Int) + 1 < n := by omega
      cases hxy : Op.bytesLess x.toList y.toList
      · go_wp2
        go_quiet (fail)
        go_wp2
        go_ret
        refine ⟨?_, ((Keeps.refl _ _).drewN _).drewN _⟩
        have hf := rising_fail (lt := lts) e0 xs k (by have := HA.out; omega) (by rw [← HX.out, ← HY.out]; exact hxy)
        rw [← HR.out, hf]; rfl
      · go_wp2
        go_quiet (fail)
        go_wp2
        go_roundw
        case rel =>
          refine ⟨k + 1, _, by omega, by go_num, rfl, fun j hj hj2 => ?_⟩
          by_cases e : j = k
          · subst e; rw [← HX.out, ← HY.out]; exact hxy
          · exact HT.out j (by omega) hj2
        case measure => simp [intOf]; omega
    · have h3 : ¬ (k : Int) + 1 < n := by omega
      go_wp2
      go_ret
      refine ⟨?_, (Keeps.refl _ _).drewN _⟩
      have hf := rising_of_all (lt := lts) e0 xs (fun i hi => HT.out i (by have := HA.out; omega) hi)
      rw [← HR.out, hf]; rfl

theorem refHas_any (w : World) (a : Option Addr) (n c : Nat) (xs : List Tx) (s : Tx) (hn : n = xs.length) (hl : Small xs) (hs : Sl TE w a c xs) :
    Calls Tryz.prog 72 #[.slice a n c, .string s] w fun e w' => e = .returned (.bool (inn xs s)) ∧ w' = w := by
  have HA : Hid (n = xs.length) := hn
  have hA : (n : Int) ≤ 100000 := by unfold Small at hl; omega
  clear hn hl
  obtain ⟨R, hR⟩ : ∃ R, inn xs s = R := ⟨_, rfl⟩
  have HR : Hid (inn xs s = R) := hR
  rw [hR]
  clear hR
  go_enter Tryz.func72, Tryz.ntmps72
  go_wp2_with fail
  go_loop [5] (fun i => ∃ k : Nat, k ≤ n ∧ i = .int .i64 k ∧ Hid (s ∉ xs.take k)) (fun i => n - (intOf i).toNat)
  case atStart => exact ⟨0, by omega, rfl, show s ∉ xs.take 0 by simp⟩
  case round =>
    obtain ⟨k, hk, rfl, HT⟩ := hrel
    by_cases h2 : k < n
    · have hka : k < xs.length := by have := HA.out; omega
      obtain ⟨b1, off1, rfl, d1⟩ := hs.at hka
      obtain ⟨x, hx⟩ : ∃ x, x = xs.getD k e0 := ⟨_, rfl⟩
      rw [← hx] at d1
      have HX : Hid (x = xs.getD k e0) := hx
      clear hx hka
      by_cases hxy : x = s
      · have hxy' : (x.toList == s.toList) = true := by rw [tx_eq]; simpa using hxy
        go_wp2
        go_ret
        refine ⟨?_, rfl⟩
        have : s ∈ xs := by
          rw [← hxy, HX.out]; exact getD_mem_lt _ (by have := HA.out; omega)
        rw [← HR.out, (inn_iff xs s).2 this]; rfl
      · have hxy' : (x.toList == s.toList) = false := by rw [tx_eq]; simpa using hxy
        go_wp2
        go_round
        case rel =>
          refine ⟨k + 1, by omega, by go_num, ?_⟩
          show s ∉ xs.take (k + 1)
          rw [take_succ_getD xs k e0 (by have := HA.out; omega), ← HX.out]
          have := HT.out
          simp only [List.mem_append, List.mem_singleton, not_or]
          exact ⟨this, fun e => hxy e.symm⟩
        case measure => simp [intOf]; omega
    · go_wp2
      go_ret
      refine ⟨?_, rfl⟩
      have := HT.out
      rw [List.take_of_length_le (by have := HA.out; omega)] at this
      rw [← HR.out, inn_no this]; rfl

theorem refID_any (w : World) (i : Nat) : Calls Tryz.prog 40 #[.int .u64 (i : Nat)] w fun e w' => e = .returned (.bool (isId i)) ∧ w' = w := by
  by_cases h : 65536 ≤ i
  · have h' : (65536 : Int) ≤ (i : Int) := by omega
    have e : isId i = true := by unfold isId; exact decide_eq_true h
    rw [e]
    clear e h
    go_enter Tryz.func40, Tryz.ntmps40
    go_wp2
    go_ret
    exact ⟨by simp [h'], rfl⟩
  · have h' : ¬ (65536 : Int) ≤ (i : Int) := by omega
    have e : isId i = false := by unfold isId; exact decide_eq_false h
    rw [e]
    clear e h
    go_enter Tryz.func40, Tryz.ntmps40
    go_wp2
    go_ret
    exact ⟨by simp [h'], rfl⟩
def lenK (l : List Tx) : Bool := decide (1 ≤ l.length ∧ l.length ≤ 1024) && (l.all fun k => decide (k.size ≤ 65535))
theorem lenK_long {l : List Tx} {k : Nat} (hk : k < l.length) (h : 65535 < (l.getD k e0).size) : lenK l = false := by
  have : (l.all fun k => decide (k.size ≤ 65535)) = false := by
    rw [List.all_eq_false]
    exact ⟨_, getD_mem_lt e0 hk, by simp at h ⊢; exact h⟩
  unfold lenK; rw [this, Bool.and_false]
theorem lenK_of {l : List Tx} (h3 : ∀ j, j < l.length → (l.getD j e0).size ≤ 65535) : lenK l = decide (1 ≤ l.length ∧ l.length ≤ 1024) := by
  have : (l.all fun k => decide (k.size ≤ 65535)) = true := by
    rw [List.all_eq_true]
    intro x hx
    obtain ⟨j, hj, rfl⟩ := List.getElem_of_mem hx
    have := h3 j hj
    rw [List.getD_eq_getElem?_getD, List.getElem?_eq_getElem hj] at this
    exact decide_eq_true this
  unfold lenK; rw [this, Bool.and_true]
theorem lenK_size {l : List Tx} (h : lenK l = true) : 1 ≤ l.length ∧ l.length ≤ 1024 := by
  unfold lenK at h; simp at h; exact h.1
theorem lengths_any (w : World) (a : Option Addr) (n c : Nat) (xs : List Tx) (hn : n = xs.length) (hl : xs.length ≤ 8796093022000) (hsz : ∀ x ∈ xs, x.size ≤ 140737488351232) (hs : Sl TE w a c xs) :
    Calls Tryz.prog 73 #[.slice a n c] w fun e w' => e = .returned (.bool (lenK xs)) ∧ w' = w := by
  have HN : Hid (n = xs.length) := hn
  have hnl : n ≤ 8796093022000 := by omega
  clear hn
  obtain ⟨R, hR⟩ : ∃ R, lenK xs = R := ⟨_, rfl⟩
  have HR : Hid (lenK xs = R) := hR
  rw [hR]
  clear hR
  go_enter Tryz.func73, Tryz.ntmps73
  go_wp2_with fail
  go_loop [3] (fun i => ∃ k : Nat, k ≤ n ∧ i = .int .i64 k ∧ Hid (∀ j, j < k → (xs.getD j e0).size ≤ 65535)) (fun i => n - (intOf i).toNat)
  case atStart => exact ⟨0, by omega, rfl, fun j hj => absurd hj (Nat.not_lt_zero _)⟩
  case round =>
    obtain ⟨k, hk, rfl, HT⟩ := hrel
    by_cases h2 : k < n
    · have hka : k < xs.length := by have := HN.out; omega
      obtain ⟨b1, off1, rfl, d1⟩ := hs.at hka
      have hxs := hsz _ (getD_mem_lt e0 hka)
      obtain ⟨x, hx⟩ : ∃ x, x = xs.getD k e0 := ⟨_, rfl⟩
      rw [← hx] at d1 hxs
      have HX : Hid (x = xs.getD k e0) := hx
      clear hx hka
      by_cases hxy : 65535 < x.size
      · have hxy' : (65535 : Int) < (x.size : Int) := by omega
        go_wp2
        go_ret
        refine ⟨?_, rfl⟩
        rw [← HR.out, lenK_long (k := k) (by have := HN.out; omega) (by rw [← HX.out]; exact hxy)]; rfl
      · have hxy' : ¬ (65535 : Int) < (x.size : Int) := by omega
        go_wp2
        go_round
        case rel =>
          refine ⟨k + 1, by omega, by go_num, ?_⟩
          intro j hj
          by_cases e : j = k
          · subst e; rw [← HX.out]; omega
          · exact HT.out j (by omega)
        case measure => simp [intOf]; omega
    · have hkn : k = n := by omega
      have HRR : Hid (R = decide (1 ≤ n ∧ n ≤ 1024)) := by
        show _ = _
        rw [← HR.out, lenK_of (fun j hj => HT.out j (by have := HN.out; omega)), HN.out]
      by_cases g1 : 1 ≤ n
      · have g1' : (1 : Int) ≤ n := by omega
        by_cases g2 : n ≤ 1024
        · have g2' : (n : Int) ≤ 1024 := by omega
          go_wp2
          go_ret
          exact ⟨by rw [HRR.out, decide_eq_true ⟨g1, g2⟩]; simp [g2'], rfl⟩
        · have g2' : ¬ (n : Int) ≤ 1024 := by omega
          go_wp2
          go_ret
          exact ⟨by rw [HRR.out, decide_eq_false (fun h => g2 h.2)]; simp [g2'], rfl⟩
      · have g1' : ¬ (1 : Int) ≤ n := by omega
        go_wp2
        go_ret
        exact ⟨by rw [HRR.out, decide_eq_false (fun h => g1 h.1)]; simp, rfl⟩

/-! ### none twice -/
theorem nodup_of {l : List Tx} (h : ∀ i j, i < j → j < l.length → l.getD i e0 ≠ l.getD j e0) : l.Nodup := by
  rw [List.Nodup, List.pairwise_iff_getElem]
  intro i j hi hj hij
  have := h i j hij hj
  simpa [List.getD_eq_getElem?_getD, hi, hj] using this
theorem not_nodup {l : List Tx} {i j : Nat} (hij : i < j) (hj : j < l.length) (h : l.getD i e0 = l.getD j e0) : ¬ l.Nodup := by
  intro hn
  rw [List.Nodup, List.pairwise_iff_getElem] at hn
  have hi : i < l.length := by omega
  have := hn i j hi hj hij
  apply this
  simpa [List.getD_eq_getElem?_getD, hi, hj] using h
set_option maxRecDepth 10000 in
theorem twice_any (w : World) (a : Option Addr) (n c : Nat) (xs : List Tx) (hn : n = xs.length) (hl : xs.length ≤ 1024) (hs : Sl TE w a c xs) :
    Calls Tryz.prog 74 #[.slice a n c] w fun e w' => (∃ B : Bool, e = .returned (.bool B) ∧ Hid (B = true ↔ ¬ xs.Nodup)) ∧ Keeps no w w' := by
  have HN : Hid (n = xs.length) := hn
  have hnl : n ≤ 1024 := by omega
  clear hn hl
  go_enter Tryz.func74, Tryz.ntmps74
  go_wp2_with fail
  go_loopw [3] (fun i wr => ∃ k : Nat, k ≤ n ∧ i = .int .i64 k ∧ Hid (∀ i j, i < j → j < k → xs.getD i e0 ≠ xs.getD j e0) ∧ Keeps no w wr) (fun i _ => n - (intOf i).toNat)
  case atStart => exact ⟨0, by omega, rfl, fun i j _ hj => absurd hj (Nat.not_lt_zero _), Keeps.refl _ _⟩
  case round =>
    obtain ⟨k, hk, rfl, HT, hkr⟩ := hrel
    by_cases h2 : k < n
    · have hka : k < xs.length := by have := HN.out; omega
      have HKA : Hid (k < xs.length) := hka
      obtain ⟨b1, off1, rfl, d1⟩ := (hs.keepsN hkr).at hka
      obtain ⟨x, hx⟩ : ∃ x, x = xs.getD k e0 := ⟨_, rfl⟩
      have HX : Hid (x = xs.getD k e0) := hx
      clear d1 hx hka
      go_wp2_with fail
      rename World => wq
      go_loopw [4] (fun i wr => ∃ t : Nat, t ≤ k ∧ i = .int .i64 t ∧ Hid (∀ i, i < t → xs.getD i e0 ≠ xs.getD k e0) ∧ Keeps no w wr) (fun i _ => k - (intOf i).toNat)
      case atStart => exact ⟨0, by omega, rfl, fun i hi => absurd hi (Nat.not_lt_zero _), hkr⟩
      case round =>
        obtain ⟨t, ht, rfl, HU, hku⟩ := hrel
        by_cases h3 : t < k
        · obtain ⟨b2, off2, e2, d1⟩ := (hs.keepsN hku).at HKA.out
          obtain ⟨b3, off3, e3, d2⟩ := (hs.keepsN hku).at (j := t) (by have := HKA.out; omega)
          cases e2
          cases e3
          rw [← HX.out] at d1
          obtain ⟨y, hy⟩ : ∃ y, y = xs.getD t e0 := ⟨_, rfl⟩
          rw [← hy] at d2
          have HY : Hid (y = xs.getD t e0) := hy
          clear hy
          have h4 : t < n := by omega
          by_cases hxy : y = x
          · have hxy' : (y.toList == x.toList) = true := by rw [tx_eq]; simpa using hxy
            go_wp2
            go_quiet (fail)
            go_wp2
            go_ret
            refine ⟨⟨true, rfl, ⟨fun _ => ?_, fun _ => rfl⟩⟩, hku.drewN _⟩
            exact not_nodup h3 HKA.out (by rw [← HX.out, ← HY.out]; exact hxy)
          · have hxy' : (y.toList == x.toList) = false := by rw [tx_eq]; simpa using hxy
            go_wp2
            go_quiet (fail)
            go_wp2
            go_roundw
            case rel =>
              refine ⟨t + 1, by omega, by go_num, ?_, hku.drewN _⟩
              intro i hi
              by_cases e : i = t
              · subst e; rw [← HX.out, ← HY.out]; exact hxy
              · exact HU.out i (by omega)
            case measure => simp [intOf]; omega
        · have htk : t = k := by omega
          go_wp2_with fail
          go_roundw
          case rel =>
            refine ⟨k + 1, by omega, by go_num, ?_, hku⟩
            intro i j hij hj
            by_cases e : j = k
            · subst e; exact HU.out i (by omega)
            · exact HT.out i j hij (by omega)
          case measure => simp [intOf]; omega
    · go_wp2
      go_ret
      refine ⟨⟨false, rfl, ⟨fun h => (by cases h), fun h => ?_⟩⟩, hkr⟩
      exact absurd (nodup_of (fun i j hij hj => HT.out i j hij (by have := HN.out; omega))) h
theorem valK_lenK (l : List Tx) : valK l = (lenK l && rising lts (isT l)) := rfl
theorem wset_lenK (l : List Tx) : wset l = (lenK l && rising lts l) := by
  unfold wset
  rw [valK_lenK]
  cases h : rising lts l with
  | false => simp
  | true =>
    have : rising lts (isT l) = true := (isort_rising swoT triT e0 l).2 (inc_nodup swoT ((rising_iff swoT l).1 h))
    rw [this]; simp
theorem refSet_any (w : World) (a : Option Addr) (n c : Nat) (xs : List Tx) (hn : n = xs.length) (hl : xs.length ≤ 8796093022000) (hsz : ∀ x ∈ xs, x.size ≤ 140737488351232) (hs : Sl TE w a c xs) :
    Calls Tryz.prog 41 #[.slice a n c] w fun e w' => e = .returned (.bool (valK xs)) ∧ Keeps no w w' := by
  have HN : Hid (n = xs.length) := hn
  clear hn
  obtain ⟨R, hR⟩ : ∃ R, valK xs = R := ⟨_, rfl⟩
  have HR : Hid (valK xs = R) := hR
  rw [hR]
  clear hR
  go_enter Tryz.func41, Tryz.ntmps41
  go_wp2_with fail
  refine (lengths_any w a n c xs HN.out hl hsz hs).mono ?_
  rintro e wq ⟨rfl, hwq⟩
  subst wq
  by_cases h : lenK xs = true
  · rw [h]
    go_wp2_with fail
    refine (twice_any w a n c xs HN.out (lenK_size h).2 hs).mono ?_
    rintro e w2 ⟨⟨B, rfl, hB⟩, hk2⟩
    have HB : Hid (R = !B) := by
      show _ = _
      rw [← HR.out, valK_lenK, h, Bool.true_and]
      cases B with
      | true =>
        have := hB.out.1 rfl
        cases hr : rising lts (isT xs) with
        | false => rfl
        | true => exact absurd ((isort_rising swoT triT e0 xs).1 hr) this
      | false =>
        have hnd : xs.Nodup := by
          by_cases hd : xs.Nodup
          · exact hd
          · have := hB.out.2 hd; cases this
        exact (isort_rising swoT triT e0 xs).2 hnd
    go_wp2
    go_ret
    exact ⟨by rw [HB.out]; rfl, hk2⟩
  · have h' : lenK xs = false := by simpa using h
    rw [h']
    go_wp2
    go_ret
    exact ⟨by rw [← HR.out, valK_lenK, h', Bool.false_and]; rfl, Keeps.refl _ _⟩
theorem refWhole_any (w : World) (a : Option Addr) (n c : Nat) (xs : List Tx) (hn : n = xs.length) (hl : xs.length ≤ 8796093022000) (hsz : ∀ x ∈ xs, x.size ≤ 140737488351232) (hs : Sl TE w a c xs) :
    Calls Tryz.prog 71 #[.slice a n c] w fun e w' => e = .returned (.bool (wset xs)) ∧ Keeps no w w' := by
  have HN : Hid (n = xs.length) := hn
  clear hn
  obtain ⟨R, hR⟩ : ∃ R, wset xs = R := ⟨_, rfl⟩
  have HR : Hid (wset xs = R) := hR
  rw [hR]
  clear hR
  go_enter Tryz.func71, Tryz.ntmps71
  go_wp2_with fail
  refine (lengths_any w a n c xs HN.out hl hsz hs).mono ?_
  rintro e wq ⟨rfl, hwq⟩
  subst wq
  by_cases h : lenK xs = true
  · rw [h]
    go_wp2_with fail
    refine (refRising_any w a n c xs HN.out (by unfold Small; have := (lenK_size h).2; omega) hs).mono ?_
    rintro e w2 ⟨rfl, hk2⟩
    go_wp2
    go_ret
    exact ⟨by rw [← HR.out, wset_lenK, h, Bool.true_and]; rfl, hk2⟩
  · have h' : lenK xs = false := by simpa using h
    rw [h']
    go_wp2
    go_ret
    exact ⟨by rw [← HR.out, wset_lenK, h', Bool.false_and]; rfl, Keeps.refl _ _⟩
end Go.Proofs.YtjklpcamlppegaaGreat
/- The document's May: wants, versions, prepares. -/
namespace Go.Proofs.YtjklpcamlppegaaGreat
open Go.RowKit Go.Sort Orl Pk
set_option linter.unusedVariables false
set_option linter.unusedSimpArgs false

set_option maxRecDepth 10000 in
theorem refWants_any (w : World) (a : Option Addr) (n c : Nat) (xs : List Wn) (hn : n = xs.length) (hl : xs.length ≤ 5864062014700) (hf : ∀ p ∈ xs, p.1.size ≤ 140737488351232) (hs : Sl WE w a c xs) :
    Calls Tryz.prog 42 #[.slice a n c] w fun e w' => e = .returned (.bool (mayW xs)) ∧ Keeps no w w' := by
  have HN : Hid (n = xs.length) := hn
  have hnl : n ≤ 5864062014700 := by omega
  clear hn
  obtain ⟨R, hR⟩ : ∃ R, mayW xs = R := ⟨_, rfl⟩
  have HR : Hid (mayW xs = R) := hR
  rw [hR]
  clear hR
  go_enter Tryz.func42, Tryz.ntmps42
  go_wp2_with fail
  go_loopw [3, 4] (fun s i wr => ∃ k : Nat, ∃ oo mo co, k ≤ n ∧ i = .int .i64 k ∧ s = .slice oo mo co ∧ Hid (mo = k) ∧ Own TE wr oo co (wks (xs.take k)) ∧ New w oo ∧ Keeps no w wr ∧ ∀ j, j < k → isId (xs.getD j w0').2 = true) (fun _ i _ => n - (intOf i).toNat)
  case atStart => exact ⟨0, none, 0, 0, by omega, rfl, rfl, rfl, own_nil _, new_none _, Keeps.refl _ _, fun j hj => by omega⟩
  case round =>
    obtain ⟨k, oo, mo, co, hk, rfl, rfl, HMO, hown, hnew, hkp, hids⟩ := hrel
    by_cases h2 : k < n
    · have hks : k < xs.length := by have := HN.out; omega
      obtain ⟨b, off, rfl, c1, c2⟩ := (hs.keepsN hkp).atW hks
      obtain ⟨x, hx⟩ : ∃ x, x = (xs.getD k w0').1 := ⟨_, rfl⟩
      obtain ⟨y, hy⟩ : ∃ y, y = (xs.getD k w0').2 := ⟨_, rfl⟩
      rw [← hx] at c1
      rw [← hy] at c2
      have HX : Hid (x = (xs.getD k w0').1) := hx
      have HY : Hid (y = (xs.getD k w0').2) := hy
      have HI : Hid (∀ j, j < k → isId (xs.getD j w0').2 = true) := hids
      have hmk : Hid (mo = (wks (xs.take k)).length ∧ (wks (xs.take k)).length ≤ 5864062014700) := by
        have e : (wks (xs.take k)).length = k := by rw [wks_length, List.length_take]; omega
        exact ⟨by rw [e]; exact HMO.out, by omega⟩
      have hmo2 : mo ≤ 5864062014700 := by have := HMO.out; omega
      clear hx hy hids
      go_wp2_with fail
      refine (refID_any _ y).mono ?_
      rintro e wq ⟨rfl, hwq⟩
      subst wq
      by_cases hi : isId y = true
      · rw [hi]
        go_wp2_with (at_builtin; go_must (refine wpList_app okT rfl _ _ rfl _ _ _ (wks (xs.take k)) rfl hmk.out.1 (hown.keepsN ((Keeps.refl _ _).alloc _)) _ _ _ [x] rfl rfl (fun h => by cases h) (own_one _ x).row (by have := hmk.out; simp [TE]; omega) (by have := hmk.out; simp; omega) ?_); intro o' c' w' ho hap)
        go_roundw
        case rel =>
          have hap' := hap.new (w0 := w) hnew (hkp.alloc _)
          refine ⟨k + 1, o', _, c', by omega, by go_num, rfl, (by have := HMO.out; show _ = _; omega), ?_, hap'.1, hap'.2, fun j hj => ?_⟩
          · rw [wks_take xs k hks, ← HX.out]; exact ho
          · rcases Nat.lt_or_ge j k with h | h
            · exact HI.out j h
            · have : j = k := by omega
              subst this; rw [← HY.out]; exact hi
        case measure => simp [intOf]; omega
      · have hi' : isId y = false := by simpa using hi
        rw [hi']
        go_wp2
        go_ret
        refine ⟨?_, hkp⟩
        rw [← HR.out, ids_of hks (by rw [← HY.out]; exact hi')]
        rfl
    · have hkn : k = n := by omega
      subst hkn
      have e0 : wks (xs.take k) = wks xs := by rw [HN.out, List.take_length]
      rw [e0] at hown
      have hlo : Hid ((wks xs).length = k) := by show _ = _; rw [wks_length]; exact HN.out.symm
      go_wp2_with fail
      refine (refSet_any wr oo mo co (wks xs) (by rw [hlo.out]; exact HMO.out) (by rw [hlo.out]; omega) (fun s hs' => by simp [wks] at hs'; obtain ⟨y, hy⟩ := hs'; exact hf _ hy) hown.sl).mono ?_
      rintro e w2 ⟨rfl, hk2⟩
      go_wp2
      go_ret
      refine ⟨?_, hkp.trans hk2⟩
      rw [← HR.out, ids_all (fun j hj => hids j (by have := HN.out; omega))]
      rfl

set_option maxRecDepth 10000 in
theorem refVersion_any (w : World) (v : Ver) (key : Tx) (id : Nat) (val : Tx) (o : Option Addr) (n c : Nat) (h : VerOf w ⟨key, id, val, o, n, c⟩ v) (hf : FitV v) :
    Calls Tryz.prog 43 #[.agg #[.string key, .int .u64 (id : Nat), .string val, .slice o n c]] w fun e w' => e = .returned (.bool (mayV v)) ∧ Keeps no w w' := by
  obtain ⟨k', i', x', ks⟩ := v
  obtain ⟨h1, h2, h3, h4, h5⟩ := h
  simp only at h1 h2 h3 h4 h5
  subst h1 h2 h3
  obtain ⟨f1, f2, f3, f4⟩ := hf
  simp only at f1 f2 f3 f4
  have HN : Hid (n = ks.length) := h4
  have hnl : n ≤ 8796093022000 := by omega
  obtain ⟨R, hR⟩ : ∃ R, mayV ⟨key, id, val, ks⟩ = R := ⟨_, rfl⟩
  have HR : Hid (mayV ⟨key, id, val, ks⟩ = R) := hR
  rw [hR]
  clear h4 hR
  have hk0 : Keeps no w (w.alloc (.cells #[.string key, .int .u64 (id : Nat), .string val, .slice o n c] 46)) := (Keeps.refl _ _).alloc _
  by_cases g1 : key.size ≤ 65535
  case neg =>
    have g1' : (65535 : Int) < (key.size : Int) := by omega
    have HF : Hid (R = false) := by
      show _ = _
      rw [← HR.out]
      cases hm : mayV ⟨key, id, val, ks⟩ with
      | false => rfl
      | true => exact absurd (mayV_ok hm).key g1
    go_enter Tryz.func43, Tryz.ntmps43
    go_wp2
    go_ret
    exact ⟨by rw [HF.out]; rfl, hk0⟩
  have g1' : ¬ (65535 : Int) < (key.size : Int) := by omega
  by_cases hi : id = 0
  · subst hi
    have HE : Hid (R = (decide (val = e0) && decide (n = 0))) := by
      show _ = _
      rw [← HR.out]; unfold mayV; simp only [if_true]; rw [HN.out, decide_eq_true g1, Bool.true_and]
    have hval : (val.toList == []) = decide (val = e0) := by
      have := tx_eq val e0
      rwa [show ByteArray.toList e0 = [] by rw [Lib.toList_data]; rfl] at this
    by_cases g2 : val = e0
    · have g2' : (val.toList == []) = true := by rw [hval]; exact decide_eq_true g2
      have g3 : decide (val = e0) = true := decide_eq_true g2
      rw [g3, Bool.true_and] at HE
      clear hval g2 g3
      by_cases g4 : n = 0
      · subst g4
        go_enter Tryz.func43, Tryz.ntmps43
        go_wp2
        go_ret
        exact ⟨by rw [HE.out]; rfl, hk0⟩
      · have g4' : ((n : Int) == 0) = false := by simp; omega
        have g5 : ¬ ((n : Int) = 0) := by omega
        go_enter Tryz.func43, Tryz.ntmps43
        go_wp2
        go_ret
        refine ⟨?_, hk0⟩
        rw [HE.out]
        simp [g4, g5]
    · have g2' : (val.toList == []) = false := by rw [hval]; exact decide_eq_false g2
      have g3 : decide (val = e0) = false := decide_eq_false g2
      rw [g3, Bool.false_and] at HE
      clear hval g2 g3
      go_enter Tryz.func43, Tryz.ntmps43
      go_wp2
      go_ret
      exact ⟨by rw [HE.out]; rfl, hk0⟩
  · have HE : Hid (R = (isId id && (decide (val.size ≤ 65535) && (wset ks && inn ks key)))) := by
      show _ = _
      rw [← HR.out]; unfold mayV; simp only [if_neg hi]
    have hi2 : ((id : Int) == 0) = false := by simp; omega
    have hi3 : ¬ ((id : Int) = 0) := by omega
    go_enter Tryz.func43, Tryz.ntmps43
    go_wp2_with fail
    refine (refID_any _ id).mono ?_
    rintro e wq ⟨rfl, hwq⟩
    subst wq
    by_cases g2 : isId id = true
    · rw [g2]
      rw [g2, Bool.true_and] at HE
      by_cases g3 : val.size ≤ 65535
      · have g3' : ((val.size : Nat) : Int) ≤ 65535 := by omega
        rw [decide_eq_true g3, Bool.true_and] at HE
        go_wp2_with fail
        refine (refWhole_any _ o n c ks HN.out f3 f4 (h5.keepsN hk0)).mono ?_
        rintro e w2 ⟨rfl, hk2⟩
        have hk02 := hk0.trans hk2
        have c0 : w2.cell? ⟨w.heap.size, 0, none⟩ = some (.string key) := hk2.cellN (cell_of_blk (blk_new w _) 0)
        have c3 : w2.cell? ⟨w.heap.size, 3, none⟩ = some (.slice o n c) := hk2.cellN (cell_of_blk (blk_new w _) 3)
        by_cases g4 : wset ks = true
        · rw [g4]
          rw [g4, Bool.true_and] at HE
          have hb : ks.length ≤ 1024 := by unfold wset at g4; simp at g4; exact (valK_size g4.1).2
          go_wp2_with fail
          refine (refHas_any w2 o n c ks key HN.out (by unfold Small; omega) (h5.keepsN hk02)).mono ?_
          rintro e wq ⟨rfl, hwq⟩
          subst wq
          go_wp2
          go_ret
          exact ⟨by rw [HE.out]; rfl, hk02⟩
        · have g4' : wset ks = false := by simpa using g4
          rw [g4']
          rw [g4', Bool.false_and] at HE
          go_wp2
          go_ret
          exact ⟨by rw [HE.out]; rfl, hk02⟩
      · have g3' : ¬ ((val.size : Nat) : Int) ≤ 65535 := by omega
        rw [decide_eq_false g3, Bool.false_and] at HE
        go_wp2
        go_ret
        exact ⟨by rw [HE.out]; simp [g3'], hk0⟩
    · have g2' : isId id = false := by simpa using g2
      rw [g2']
      rw [g2', Bool.false_and] at HE
      go_wp2
      go_ret
      exact ⟨by rw [HE.out]; rfl, hk0⟩

/-! ### a prepare's pairs, as the document has them -/
theorem inc_sub_len : ∀ (l2 l1 : List Tx), Inc lts l1 → Inc lts l2 → (∀ x ∈ l1, x ∈ l2) → l1.length ≤ l2.length
  | [], l1, _, _, h => by
    cases l1 with
    | nil => simp
    | cons x r => exact absurd (h x (List.mem_cons_self)) (by simp)
  | y :: r2, [], _, _, _ => by simp
  | y :: r2, x :: r1, h1, h2, h => by
    have h2' : Inc lts r2 := (List.pairwise_cons.1 h2).2
    by_cases e : x = y
    · subst e
      have := inc_sub_len r2 r1 (List.pairwise_cons.1 h1).2 h2' (fun z hz => by
        rcases List.mem_cons.1 (h z (List.mem_cons_of_mem _ hz)) with h' | h'
        · subst h'
          have := (List.pairwise_cons.1 h1).1 z hz
          rw [swoT.irrefl] at this; cases this
        · exact h')
      simp only [List.length_cons]; omega
    · have hx : x ∈ r2 := by
        rcases List.mem_cons.1 (h x (List.mem_cons_self)) with h' | h'
        · exact absurd h' e
        · exact h'
      have hyx : lts y x = true := (List.pairwise_cons.1 h2).1 x hx
      have := inc_sub_len r2 (x :: r1) h1 h2' (fun z hz => by
        rcases List.mem_cons.1 (h z hz) with h' | h'
        · subst h'
          rcases List.mem_cons.1 hz with h'' | h''
          · exact absurd h''.symm e
          · have h3 := (List.pairwise_cons.1 h1).1 z h''
            have := asym swoT h3
            rw [hyx] at this; cases this
        · exact h')
      simp only [List.length_cons] at this ⊢; omega
theorem kys_getD (l : List Pr) (j : Nat) (h : j < l.length) : (kys l).getD j e0 = (l.getD j p0).1 := by
  simp [kys, List.getD_eq_getElem?_getD, h]
theorem mayP_of {l : List Pr} {ks : List Tx} (hk : wset ks = true) (h1 : 1 ≤ l.length) (hall : ∀ j, j < l.length → inn ks (l.getD j p0).1 = true ∧ (l.getD j p0).2.size ≤ 65535)
    (hr : ∀ j, j + 1 < l.length → lts (l.getD j p0).1 (l.getD (j + 1) p0).1 = true) : mayP l ks = true := by
  have hkk : valK ks = true ∧ rising lts ks = true := by unfold wset at hk; simpa using hk
  have hri : rising lts (kys l) = true := rising_of_all (lt := lts) e0 (kys l) (fun i hi => by
    rw [kys_length] at hi
    rw [kys_getD l i (by omega), kys_getD l (i + 1) hi]
    exact hr i hi)
  have hin : ∀ x ∈ kys l, inn ks x = true := by
    intro x hx
    simp only [kys, List.mem_map] at hx
    obtain ⟨p, hp, rfl⟩ := hx
    obtain ⟨j, hj, rfl⟩ := List.getElem_of_mem hp
    have := (hall j hj).1
    simpa [List.getD_eq_getElem?_getD, hj] using this
  have hinc := (rising_iff swoT (kys l)).1 hri
  have hlen := inc_sub_len ks (kys l) hinc ((rising_iff swoT ks).1 hkk.2) (fun x hx => (inn_iff ks x).1 (hin x hx))
  rw [kys_length] at hlen
  obtain ⟨a, b, c⟩ := valK_all hkk.1
  have hvk : valK (kys l) = true := by
    rw [valK_lenK]
    have h2 : lenK (kys l) = true := by
      rw [lenK_of (fun j hj => by
        have := c _ ((inn_iff ks _).1 (hin _ (getD_mem_lt e0 hj)))
        exact this), kys_length]
      exact decide_eq_true ⟨h1, by omega⟩
    rw [h2, Bool.true_and]; exact (isort_rising swoT triT e0 (kys l)).2 (inc_nodup swoT hinc)
  have hvp : valP l = true := by
    rw [valP_of (fun j hj => (hall j hj).2), hvk]
  have hsub : sub (kys l) ks = true := by unfold sub; rw [List.all_eq_true]; exact hin
  unfold mayP; rw [hvp, hri, hsub]; rfl
theorem mayP_in {l : List Pr} {ks : List Tx} {j : Nat} (hj : j < l.length) (h : inn ks (l.getD j p0).1 = false) : mayP l ks = false := by
  have : sub (kys l) ks = false := by
    unfold sub
    rw [List.all_eq_false]
    exact ⟨_, List.mem_map.2 ⟨_, getD_mem_lt p0 hj, rfl⟩, by rw [h]; simp⟩
  unfold mayP; rw [this, Bool.and_false, Bool.and_false]
theorem mayP_val {l : List Pr} {ks : List Tx} {j : Nat} (hj : j < l.length) (h : 65535 < (l.getD j p0).2.size) : mayP l ks = false := by
  unfold mayP; rw [valP_long hj h, Bool.false_and]
theorem mayP_rise {l : List Pr} {ks : List Tx} {j : Nat} (hj : j + 1 < l.length) (h : lts (l.getD j p0).1 (l.getD (j + 1) p0).1 = false) : mayP l ks = false := by
  have : rising lts (kys l) = false := rising_fail (lt := lts) e0 (kys l) j (by rw [kys_length]; exact hj) (by rw [kys_getD l j (by omega), kys_getD l (j + 1) hj]; exact h)
  unfold mayP; rw [this, Bool.false_and, Bool.and_false]
theorem mayP_none {ks : List Tx} : mayP [] ks = false := by
  unfold mayP valP; rw [show valK (kys []) = false from rfl, Bool.and_false, Bool.false_and]
end Go.Proofs.YtjklpcamlppegaaGreat
/- The document's May: prepares, which lists there are. -/
namespace Go.Proofs.YtjklpcamlppegaaGreat
open Go.RowKit Go.Sort Orl Pk
set_option linter.unusedVariables false
set_option linter.unusedSimpArgs false

set_option maxRecDepth 10000 in
theorem only_prepare (w : World) (k cl : Int) (q i : Nat) (op : Option Addr) (np cp : Nat) (ok : Option Addr) (nk ck : Nat) (ow : Option Addr) (nw cw : Nat) (ov : Option Addr) (nv cv : Nat) (rs : List RV) (m : Msg)
    (h : IsM w k cl q i op np cp ok nk ck ow nw cw ov nv cv rs m) :
    Calls Tryz.prog 38 #[.agg #[.int .i64 k, .int .i64 cl, .int .u64 (q : Nat), .int .u64 (i : Nat), .slice op np cp, .slice ok nk ck, .slice ow nw cw, .slice ov nv cv], .bool true, .bool true, .bool false, .bool false] w
      fun e w' => e = .returned (.bool (none4 m true true false false)) ∧ Keeps no w w' := by
  have bk : nk = m.keys.length := h.nk
  have bp : np = m.pairs.length := h.np
  have bw : nw = m.wants.length := h.nw
  have bv : nv = m.vers.length := h.nv
  have lk : nk ≤ 8796093022000 := by rw [bk]; exact h.fit.klen
  have lp : np ≤ 4398046511000 := by rw [bp]; exact h.fit.plen
  have lw : nw ≤ 5864062014700 := by rw [bw]; exact h.fit.wlen
  have lv : nv ≤ 2199023255500 := by rw [bv]; exact h.fit.vlen
  have hB : none4 m true true false false = ((true || decide (np = 0)) && ((true || decide (nk = 0)) && ((false || decide (nw = 0)) && (false || decide (nv = 0))))) := by unfold none4; rw [bk, bp, bw, bv]
  rw [hB]
  clear bk bp bw bv hB h
  have hk0 : Keeps no w (w.alloc (.cells #[.int .i64 k, .int .i64 cl, .int .u64 (q : Nat), .int .u64 (i : Nat), .slice op np cp, .slice ok nk ck, .slice ow nw cw, .slice ov nv cv] 29)) := (Keeps.refl _ _).alloc _
  by_cases gw : nw = 0
  case' neg =>
    have gw1 : ((nw : Int) == 0) = false := by simp; omega
    have gw2 : ¬ ((nw : Int) = 0) := by omega
    go_enter Tryz.func38, Tryz.ntmps38
    go_wp2
    go_ret
    exact ⟨by simp [gw, gw2], hk0⟩
  subst gw
  by_cases gv : nv = 0
  case' neg =>
    have gv1 : ((nv : Int) == 0) = false := by simp; omega
    have gv2 : ¬ ((nv : Int) = 0) := by omega
    go_enter Tryz.func38, Tryz.ntmps38
    go_wp2
    go_ret
    exact ⟨by simp [gv, gv2], hk0⟩
  subst gv
  go_enter Tryz.func38, Tryz.ntmps38
  go_wp2
  go_ret
  exact ⟨by simp, hk0⟩
set_option maxRecDepth 10000 in
theorem only_plain (w : World) (k cl : Int) (q i : Nat) (op : Option Addr) (np cp : Nat) (ok : Option Addr) (nk ck : Nat) (ow : Option Addr) (nw cw : Nat) (ov : Option Addr) (nv cv : Nat) (rs : List RV) (m : Msg)
    (h : IsM w k cl q i op np cp ok nk ck ow nw cw ov nv cv rs m) :
    Calls Tryz.prog 38 #[.agg #[.int .i64 k, .int .i64 cl, .int .u64 (q : Nat), .int .u64 (i : Nat), .slice op np cp, .slice ok nk ck, .slice ow nw cw, .slice ov nv cv], .bool false, .bool false, .bool false, .bool false] w
      fun e w' => e = .returned (.bool (none4 m false false false false)) ∧ Keeps no w w' := by
  have bk : nk = m.keys.length := h.nk
  have bp : np = m.pairs.length := h.np
  have bw : nw = m.wants.length := h.nw
  have bv : nv = m.vers.length := h.nv
  have lk : nk ≤ 8796093022000 := by rw [bk]; exact h.fit.klen
  have lp : np ≤ 4398046511000 := by rw [bp]; exact h.fit.plen
  have lw : nw ≤ 5864062014700 := by rw [bw]; exact h.fit.wlen
  have lv : nv ≤ 2199023255500 := by rw [bv]; exact h.fit.vlen
  have hB : none4 m false false false false = ((false || decide (np = 0)) && ((false || decide (nk = 0)) && ((false || decide (nw = 0)) && (false || decide (nv = 0))))) := by unfold none4; rw [bk, bp, bw, bv]
  rw [hB]
  clear bk bp bw bv hB h
  have hk0 : Keeps no w (w.alloc (.cells #[.int .i64 k, .int .i64 cl, .int .u64 (q : Nat), .int .u64 (i : Nat), .slice op np cp, .slice ok nk ck, .slice ow nw cw, .slice ov nv cv] 29)) := (Keeps.refl _ _).alloc _
  by_cases gp : np = 0
  case' neg =>
    have gp1 : ((np : Int) == 0) = false := by simp; omega
    have gp2 : ¬ ((np : Int) = 0) := by omega
    go_enter Tryz.func38, Tryz.ntmps38
    go_wp2
    go_ret
    exact ⟨by simp [gp, gp2], hk0⟩
  subst gp
  by_cases gk : nk = 0
  case' neg =>
    have gk1 : ((nk : Int) == 0) = false := by simp; omega
    have gk2 : ¬ ((nk : Int) = 0) := by omega
    go_enter Tryz.func38, Tryz.ntmps38
    go_wp2
    go_ret
    exact ⟨by simp [gk, gk2], hk0⟩
  subst gk
  by_cases gw : nw = 0
  case' neg =>
    have gw1 : ((nw : Int) == 0) = false := by simp; omega
    have gw2 : ¬ ((nw : Int) = 0) := by omega
    go_enter Tryz.func38, Tryz.ntmps38
    go_wp2
    go_ret
    exact ⟨by simp [gw, gw2], hk0⟩
  subst gw
  by_cases gv : nv = 0
  case' neg =>
    have gv1 : ((nv : Int) == 0) = false := by simp; omega
    have gv2 : ¬ ((nv : Int) = 0) := by omega
    go_enter Tryz.func38, Tryz.ntmps38
    go_wp2
    go_ret
    exact ⟨by simp [gv, gv2], hk0⟩
  subst gv
  go_enter Tryz.func38, Tryz.ntmps38
  go_wp2
  go_ret
  exact ⟨by simp, hk0⟩
set_option maxRecDepth 10000 in
theorem only_latest (w : World) (k cl : Int) (q i : Nat) (op : Option Addr) (np cp : Nat) (ok : Option Addr) (nk ck : Nat) (ow : Option Addr) (nw cw : Nat) (ov : Option Addr) (nv cv : Nat) (rs : List RV) (m : Msg)
    (h : IsM w k cl q i op np cp ok nk ck ow nw cw ov nv cv rs m) :
    Calls Tryz.prog 38 #[.agg #[.int .i64 k, .int .i64 cl, .int .u64 (q : Nat), .int .u64 (i : Nat), .slice op np cp, .slice ok nk ck, .slice ow nw cw, .slice ov nv cv], .bool false, .bool true, .bool false, .bool false] w
      fun e w' => e = .returned (.bool (none4 m false true false false)) ∧ Keeps no w w' := by
  have bk : nk = m.keys.length := h.nk
  have bp : np = m.pairs.length := h.np
  have bw : nw = m.wants.length := h.nw
  have bv : nv = m.vers.length := h.nv
  have lk : nk ≤ 8796093022000 := by rw [bk]; exact h.fit.klen
  have lp : np ≤ 4398046511000 := by rw [bp]; exact h.fit.plen
  have lw : nw ≤ 5864062014700 := by rw [bw]; exact h.fit.wlen
  have lv : nv ≤ 2199023255500 := by rw [bv]; exact h.fit.vlen
  have hB : none4 m false true false false = ((false || decide (np = 0)) && ((true || decide (nk = 0)) && ((false || decide (nw = 0)) && (false || decide (nv = 0))))) := by unfold none4; rw [bk, bp, bw, bv]
  rw [hB]
  clear bk bp bw bv hB h
  have hk0 : Keeps no w (w.alloc (.cells #[.int .i64 k, .int .i64 cl, .int .u64 (q : Nat), .int .u64 (i : Nat), .slice op np cp, .slice ok nk ck, .slice ow nw cw, .slice ov nv cv] 29)) := (Keeps.refl _ _).alloc _
  by_cases gp : np = 0
  case' neg =>
    have gp1 : ((np : Int) == 0) = false := by simp; omega
    have gp2 : ¬ ((np : Int) = 0) := by omega
    go_enter Tryz.func38, Tryz.ntmps38
    go_wp2
    go_ret
    exact ⟨by simp [gp, gp2], hk0⟩
  subst gp
  by_cases gw : nw = 0
  case' neg =>
    have gw1 : ((nw : Int) == 0) = false := by simp; omega
    have gw2 : ¬ ((nw : Int) = 0) := by omega
    go_enter Tryz.func38, Tryz.ntmps38
    go_wp2
    go_ret
    exact ⟨by simp [gw, gw2], hk0⟩
  subst gw
  by_cases gv : nv = 0
  case' neg =>
    have gv1 : ((nv : Int) == 0) = false := by simp; omega
    have gv2 : ¬ ((nv : Int) = 0) := by omega
    go_enter Tryz.func38, Tryz.ntmps38
    go_wp2
    go_ret
    exact ⟨by simp [gv, gv2], hk0⟩
  subst gv
  go_enter Tryz.func38, Tryz.ntmps38
  go_wp2
  go_ret
  exact ⟨by simp, hk0⟩
set_option maxRecDepth 10000 in
theorem only_byID (w : World) (k cl : Int) (q i : Nat) (op : Option Addr) (np cp : Nat) (ok : Option Addr) (nk ck : Nat) (ow : Option Addr) (nw cw : Nat) (ov : Option Addr) (nv cv : Nat) (rs : List RV) (m : Msg)
    (h : IsM w k cl q i op np cp ok nk ck ow nw cw ov nv cv rs m) :
    Calls Tryz.prog 38 #[.agg #[.int .i64 k, .int .i64 cl, .int .u64 (q : Nat), .int .u64 (i : Nat), .slice op np cp, .slice ok nk ck, .slice ow nw cw, .slice ov nv cv], .bool false, .bool false, .bool true, .bool false] w
      fun e w' => e = .returned (.bool (none4 m false false true false)) ∧ Keeps no w w' := by
  have bk : nk = m.keys.length := h.nk
  have bp : np = m.pairs.length := h.np
  have bw : nw = m.wants.length := h.nw
  have bv : nv = m.vers.length := h.nv
  have lk : nk ≤ 8796093022000 := by rw [bk]; exact h.fit.klen
  have lp : np ≤ 4398046511000 := by rw [bp]; exact h.fit.plen
  have lw : nw ≤ 5864062014700 := by rw [bw]; exact h.fit.wlen
  have lv : nv ≤ 2199023255500 := by rw [bv]; exact h.fit.vlen
  have hB : none4 m false false true false = ((false || decide (np = 0)) && ((false || decide (nk = 0)) && ((true || decide (nw = 0)) && (false || decide (nv = 0))))) := by unfold none4; rw [bk, bp, bw, bv]
  rw [hB]
  clear bk bp bw bv hB h
  have hk0 : Keeps no w (w.alloc (.cells #[.int .i64 k, .int .i64 cl, .int .u64 (q : Nat), .int .u64 (i : Nat), .slice op np cp, .slice ok nk ck, .slice ow nw cw, .slice ov nv cv] 29)) := (Keeps.refl _ _).alloc _
  by_cases gp : np = 0
  case' neg =>
    have gp1 : ((np : Int) == 0) = false := by simp; omega
    have gp2 : ¬ ((np : Int) = 0) := by omega
    go_enter Tryz.func38, Tryz.ntmps38
    go_wp2
    go_ret
    exact ⟨by simp [gp, gp2], hk0⟩
  subst gp
  by_cases gk : nk = 0
  case' neg =>
    have gk1 : ((nk : Int) == 0) = false := by simp; omega
    have gk2 : ¬ ((nk : Int) = 0) := by omega
    go_enter Tryz.func38, Tryz.ntmps38
    go_wp2
    go_ret
    exact ⟨by simp [gk, gk2], hk0⟩
  subst gk
  by_cases gv : nv = 0
  case' neg =>
    have gv1 : ((nv : Int) == 0) = false := by simp; omega
    have gv2 : ¬ ((nv : Int) = 0) := by omega
    go_enter Tryz.func38, Tryz.ntmps38
    go_wp2
    go_ret
    exact ⟨by simp [gv, gv2], hk0⟩
  subst gv
  go_enter Tryz.func38, Tryz.ntmps38
  go_wp2
  go_ret
  exact ⟨by simp, hk0⟩
set_option maxRecDepth 10000 in
theorem only_versions (w : World) (k cl : Int) (q i : Nat) (op : Option Addr) (np cp : Nat) (ok : Option Addr) (nk ck : Nat) (ow : Option Addr) (nw cw : Nat) (ov : Option Addr) (nv cv : Nat) (rs : List RV) (m : Msg)
    (h : IsM w k cl q i op np cp ok nk ck ow nw cw ov nv cv rs m) :
    Calls Tryz.prog 38 #[.agg #[.int .i64 k, .int .i64 cl, .int .u64 (q : Nat), .int .u64 (i : Nat), .slice op np cp, .slice ok nk ck, .slice ow nw cw, .slice ov nv cv], .bool false, .bool false, .bool false, .bool true] w
      fun e w' => e = .returned (.bool (none4 m false false false true)) ∧ Keeps no w w' := by
  have bk : nk = m.keys.length := h.nk
  have bp : np = m.pairs.length := h.np
  have bw : nw = m.wants.length := h.nw
  have bv : nv = m.vers.length := h.nv
  have lk : nk ≤ 8796093022000 := by rw [bk]; exact h.fit.klen
  have lp : np ≤ 4398046511000 := by rw [bp]; exact h.fit.plen
  have lw : nw ≤ 5864062014700 := by rw [bw]; exact h.fit.wlen
  have lv : nv ≤ 2199023255500 := by rw [bv]; exact h.fit.vlen
  have hB : none4 m false false false true = ((false || decide (np = 0)) && ((false || decide (nk = 0)) && ((false || decide (nw = 0)) && (true || decide (nv = 0))))) := by unfold none4; rw [bk, bp, bw, bv]
  rw [hB]
  clear bk bp bw bv hB h
  have hk0 : Keeps no w (w.alloc (.cells #[.int .i64 k, .int .i64 cl, .int .u64 (q : Nat), .int .u64 (i : Nat), .slice op np cp, .slice ok nk ck, .slice ow nw cw, .slice ov nv cv] 29)) := (Keeps.refl _ _).alloc _
  by_cases gp : np = 0
  case' neg =>
    have gp1 : ((np : Int) == 0) = false := by simp; omega
    have gp2 : ¬ ((np : Int) = 0) := by omega
    go_enter Tryz.func38, Tryz.ntmps38
    go_wp2
    go_ret
    exact ⟨by simp [gp, gp2], hk0⟩
  subst gp
  by_cases gk : nk = 0
  case' neg =>
    have gk1 : ((nk : Int) == 0) = false := by simp; omega
    have gk2 : ¬ ((nk : Int) = 0) := by omega
    go_enter Tryz.func38, Tryz.ntmps38
    go_wp2
    go_ret
    exact ⟨by simp [gk, gk2], hk0⟩
  subst gk
  by_cases gw : nw = 0
  case' neg =>
    have gw1 : ((nw : Int) == 0) = false := by simp; omega
    have gw2 : ¬ ((nw : Int) = 0) := by omega
    go_enter Tryz.func38, Tryz.ntmps38
    go_wp2
    go_ret
    exact ⟨by simp [gw, gw2], hk0⟩
  subst gw
  go_enter Tryz.func38, Tryz.ntmps38
  go_wp2
  go_ret
  exact ⟨by simp, hk0⟩

set_option maxRecDepth 20000 in
set_option maxHeartbeats 1000000 in
theorem prepare_any (w : World) (k cl : Int) (q i : Nat) (op : Option Addr) (np cp : Nat) (ok : Option Addr) (nk ck : Nat) (ow : Option Addr) (nw cw : Nat) (ov : Option Addr) (nv cv : Nat) (rs : List RV) (m : Msg)
    (h : IsM w k cl q i op np cp ok nk ck ow nw cw ov nv cv rs m) :
    Calls Tryz.prog 39 #[.agg #[.int .i64 k, .int .i64 cl, .int .u64 (q : Nat), .int .u64 (i : Nat), .slice op np cp, .slice ok nk ck, .slice ow nw cw, .slice ov nv cv]] w
      fun e w' => e = .returned (.bool (isId m.id && (wset m.keys && mayP m.pairs m.keys))) ∧ Keeps no w w' := by
  have H : Hid (IsM w k cl q i op np cp ok nk ck ow nw cw ov nv cv rs m) := h
  have lp : np ≤ 4398046511000 := by rw [h.np]; exact h.fit.plen
  obtain ⟨R, hR⟩ : ∃ R, (isId m.id && (wset m.keys && mayP m.pairs m.keys)) = R := ⟨_, rfl⟩
  have HR : Hid ((isId i && (wset m.keys && mayP m.pairs m.keys)) = R) := by show _ = _; rw [h.i]; exact hR
  rw [hR]
  clear hR h
  have hk0 : Keeps no w (w.alloc (.cells #[.int .i64 k, .int .i64 cl, .int .u64 (q : Nat), .int .u64 (i : Nat), .slice op np cp, .slice ok nk ck, .slice ow nw cw, .slice ov nv cv] 29)) := (Keeps.refl _ _).alloc _
  go_enter Tryz.func39, Tryz.ntmps39
  go_wp2_with fail
  refine (refID_any _ i).mono ?_
  rintro e wq ⟨rfl, hwq⟩
  subst wq
  by_cases g1 : isId i = true
  case neg =>
    have g1' : isId i = false := by simpa using g1
    rw [g1']
    go_wp2
    go_ret
    exact ⟨by rw [← HR.out, g1', Bool.false_and]; rfl, hk0⟩
  rw [g1]
  rw [g1, Bool.true_and] at HR
  go_wp2_with fail
  refine (refWhole_any _ ok nk ck m.keys H.out.nk H.out.fit.klen H.out.fit.keys (H.out.kys.keepsN hk0)).mono ?_
  rintro e w2 ⟨rfl, hk2⟩
  have hb2 := hk2.at (blk_new w _) (fun h => h)
  have HB2 : Hid (w2.heap[w.heap.size]? = some (.cells #[.int .i64 k, .int .i64 cl, .int .u64 (q : Nat), .int .u64 (i : Nat), .slice op np cp, .slice ok nk ck, .slice ow nw cw, .slice ov nv cv] 29 (0, 0))) := hb2
  obtain ⟨A, hA⟩ : ∃ A, A = w.heap.size := ⟨_, rfl⟩
  have hk02 := hk0.trans hk2
  by_cases g2 : wset m.keys = true
  case neg =>
    have g2' : wset m.keys = false := by simpa using g2
    rw [g2']
    clear hA
    go_wp2
    go_ret
    exact ⟨by rw [← HR.out, g2', Bool.false_and]; rfl, hk02⟩
  rw [g2]
  rw [g2, Bool.true_and] at HR
  have G2 : Hid (wset m.keys = true) := g2
  have hkb : Hid (m.keys.length ≤ 1024) := by unfold wset at g2; simp at g2; exact (valK_size g2.1).2
  rw [← hA] at HB2 hb2 ⊢
  clear hA
  obtain ⟨x0, x1, x2, x3, x4, x5, x6, x7⟩ := cells8 hb2
  clear hb2
  by_cases g3 : np = 0
  · subst g3
    go_wp2
    go_ret
    refine ⟨?_, hk02⟩
    rw [← HR.out, len0 H.out.np.symm, mayP_none]; rfl
  have g3' : ¬ (np : Int) < 1 := by omega
  go_wp2_with fail
  go_loopw [3] (fun j wr => ∃ t : Nat, t ≤ np ∧ j = .int .i64 t ∧ Hid ((∀ j, j < t → inn m.keys (m.pairs.getD j p0).1 = true ∧ (m.pairs.getD j p0).2.size ≤ 65535) ∧ ∀ j, j + 1 < t → lts (m.pairs.getD j p0).1 (m.pairs.getD (j + 1) p0).1 = true) ∧ Keeps no w2 wr) (fun j _ => np - (intOf j).toNat)
  case atStart => exact ⟨0, by omega, rfl, ⟨fun j hj => absurd hj (Nat.not_lt_zero _), fun j hj => absurd hj (Nat.not_lt_zero _)⟩, Keeps.refl _ _⟩
  case round =>
    obtain ⟨t, ht, rfl, HT, hkr⟩ := hrel
    clear x0 x1 x2 x3 x4 x5 x6 x7
    have hkr0 := hk02.trans hkr
    by_cases h2 : t < np
    · have hta : t < m.pairs.length := by rw [← H.out.np]; exact h2
      obtain ⟨b1, off1, rfl, d1, d2⟩ := (H.out.prs.keepsN hkr0).atP hta
      have hps := (H.out.fit.pairs _ (getD_mem_lt p0 hta)).2
      have HTA : Hid (t < m.pairs.length) := hta
      rcases hx : m.pairs.getD t p0 with ⟨u1, u2⟩
      rw [hx] at d1 d2 hps
      simp only at d1 d2 hps
      have HX : Hid (m.pairs.getD t p0 = (u1, u2)) := hx
      have hA := hkr.at HB2.out (fun h => h)
      have HKK : Hid (∀ wz, Keeps no w wz → Calls Tryz.prog 72 #[.slice ok nk ck, .string u1] wz fun e w' => e = .returned (.bool (inn m.keys u1)) ∧ w' = wz) := fun wz hz => refHas_any wz ok nk ck m.keys u1 H.out.nk (by unfold Small; have := hkb.out; omega) (H.out.kys.keepsN hz)
      obtain ⟨x0, x1, x2, x3, x4, x5, x6, x7⟩ := cells8 hA
      have hA' := blk_alloc hA (.cells #[.string u1, .string u2] 51)
      obtain ⟨y0, y1, y2, y3, y4, y5, y6, y7⟩ := cells8 hA'
      have e1 : (wr.alloc (.cells #[.string u1, .string u2] 51)).cell? ⟨b1, off1 + t * 2, none⟩ = some (.string u1) := ((Keeps.refl no wr).alloc _).cellN d1
      have kz := (hkr0.alloc (.cells #[.string u1, .string u2] 51))
      have HKZ : Hid (Keeps no w (wr.alloc (.cells #[.string u1, .string u2] 51))) := kz
      clear hx hta hA hA' kz
      obtain ⟨IB, hIB⟩ : ∃ B, B = inn m.keys u1 := ⟨_, rfl⟩
      rw [← hIB] at HKK
      have HIB : Hid (IB = inn m.keys u1) := hIB
      clear hIB
      cases IB with
      | false =>
        go_wp2_with fail
        go_quiet ((go_at_call 72; exact Calls.quiet_of_same (HKK.out _ (HKZ.out.drewN _))))
        go_wp2
        go_ret
        refine ⟨?_, HKZ.out.drewN _⟩
        rw [← HR.out, mayP_in HTA.out (by rw [HX.out]; exact HIB.out.symm)]; rfl
      | true =>
        by_cases g4 : u2.size ≤ 65535
        case neg =>
          have g4' : (65535 : Int) < (u2.size : Int) := by omega
          have g4a : decide ((65535 : Int) < (u2.size : Int)) = true := decide_eq_true g4'
          have g4b : decide (65535 < u2.size) = true := decide_eq_true (by omega)
          go_wp2_with fail
          go_quiet ((go_at_call 72; exact Calls.quiet_of_same (HKK.out _ (HKZ.out.drewN _))))
          go_wp2
          go_ret
          refine ⟨?_, HKZ.out.drewN _⟩
          rw [← HR.out, mayP_val HTA.out (by rw [HX.out]; simp only; omega)]; rfl
        have g4' : ¬ (65535 : Int) < (u2.size : Int) := by omega
        have g4a : decide ((65535 : Int) < (u2.size : Int)) = false := decide_eq_false g4'
        have g4b : decide (65535 < u2.size) = false := decide_eq_false (by omega)
        by_cases g5 : t = 0
        · subst g5
          simp only [Nat.zero_mul, Nat.add_zero] at d1 d2 e1
          go_wp2_with fail
          go_quiet ((go_at_call 72; exact Calls.quiet_of_same (HKK.out _ (HKZ.out.drewN _))))
          go_wp2
          go_roundw
          case rel =>
            refine ⟨1, by omega, by go_num, ⟨fun j hj => ?_, fun j hj => by omega⟩, (hkr.alloc _).drewN _⟩
            obtain rfl : j = 0 := by omega
            rw [HX.out]; exact ⟨HIB.out.symm, g4⟩
          case measure => simp [intOf]; omega
        · obtain ⟨T, rfl⟩ : ∃ T, t = T + 1 := ⟨t - 1, by omega⟩
          obtain ⟨b2, off2, eb, d3, d4⟩ := (H.out.prs.keepsN hkr0).atP (j := T) (by have := HTA.out; omega)
          cases eb
          rcases hy : m.pairs.getD T p0 with ⟨v1, v2⟩
          rw [hy] at d3 d4
          simp only at d3 d4
          have HY : Hid (m.pairs.getD T p0 = (v1, v2)) := hy
          have e3 : (wr.alloc (.cells #[.string u1, .string u2] 51)).cell? ⟨b1, off1 + T * 2, none⟩ = some (.string v1) := ((Keeps.refl no wr).alloc _).cellN d3
          clear hy
          have g6 : (0 : Int) < (T : Int) + 1 := by omega
          have g7 : (T : Int) + 1 - 1 = (T : Int) := by omega
          have g8 : T < np := by omega
          have j1 : (T : Int) + 1 < np := by omega
          have j2 : (np : Int) ≤ 4398046511000 := by omega
          have j3 : (T : Int) < np := by omega
          have j4 : IntKind.i64.wrap (T : Int) = (T : Int) := by rw [IntKind.wrap_i64]; omega
          by_cases g9 : lts v1 u1 = true
          · have g9' : Op.bytesLess v1.toList u1.toList = true := g9
            have G9 : Hid (lts v1 u1 = true) := g9
            clear g9
            go_wp2_with fail
            go_quiet ((go_at_call 72; exact Calls.quiet_of_same (HKK.out _ (HKZ.out.drewN _))))
            go_wp2
            go_roundw
            case rel =>
              refine ⟨T + 2, by omega, by go_num, ⟨fun j hj => ?_, fun j hj => ?_⟩, (hkr.alloc _).drewN _⟩
              · by_cases e : j = T + 1
                · subst e; rw [HX.out]; exact ⟨HIB.out.symm, g4⟩
                · exact HT.out.1 j (by omega)
              · by_cases e : j = T
                · subst e; rw [HX.out, HY.out]; exact G9.out
                · exact HT.out.2 j (by omega)
            case measure => simp [intOf]; omega
          · have g9' : Op.bytesLess v1.toList u1.toList = false := by have := g9; unfold lts at this; simpa using this
            have G9 : Hid (lts v1 u1 = false) := g9'
            clear g9
            go_wp2_with fail
            go_quiet ((go_at_call 72; exact Calls.quiet_of_same (HKK.out _ (HKZ.out.drewN _))))
            go_wp2
            go_ret
            refine ⟨?_, HKZ.out.drewN _⟩
            rw [← HR.out, mayP_rise (j := T) HTA.out (by rw [HX.out, HY.out]; exact G9.out)]; rfl
    · have hA := hkr.at HB2.out (fun h => h)
      obtain ⟨x0, x1, x2, x3, x4, x5, x6, x7⟩ := cells8 hA
      clear hA
      go_wp2
      go_ret
      refine ⟨?_, hkr0⟩
      have hnp := H.out.np
      rw [← HR.out, mayP_of G2.out (by omega) (fun j hj => HT.out.1 j (by omega)) (fun j hj => HT.out.2 j (by omega))]; rfl
end Go.Proofs.YtjklpcamlppegaaGreat
/- The document's May. -/
namespace Go.Proofs.YtjklpcamlppegaaGreat
open Go.RowKit Go.Sort Orl Pk
set_option linter.unusedVariables false
set_option linter.unusedSimpArgs false

set_option maxRecDepth 20000 in
set_option maxHeartbeats 4000000 in
theorem refMay_any (w : World) (k cl : Int) (q i : Nat) (op : Option Addr) (np cp : Nat) (ok : Option Addr) (nk ck : Nat) (ow : Option Addr) (nw cw : Nat) (ov : Option Addr) (nv cv : Nat) (rs : List RV) (m : Msg)
    (h : IsM w k cl q i op np cp ok nk ck ow nw cw ov nv cv rs m) :
    Calls Tryz.prog 19 #[.agg #[.int .i64 k, .int .i64 cl, .int .u64 (q : Nat), .int .u64 (i : Nat), .slice op np cp, .slice ok nk ck, .slice ow nw cw, .slice ov nv cv]] w
      fun e w' => e = .returned (.bool (may m)) ∧ Keeps no w w' := by
  have H : Hid (IsM w k cl q i op np cp ok nk ck ow nw cw ov nv cv rs m) := h
  have HK : Hid (k = m.kind ∧ cl = m.client ∧ q = m.req ∧ i = m.id) := ⟨h.k, h.cl, h.q, h.i⟩
  have c1 : -9223372036854775808 ≤ cl := by rw [h.cl]; exact h.rng.c1
  have c2 : cl ≤ 9223372036854775807 := by rw [h.cl]; exact h.rng.c2
  have li : i < 18446744073709551616 := by rw [h.i]; exact h.rng.id
  have lv : nv ≤ 2199023255500 := by rw [h.nv]; exact h.fit.vlen
  obtain ⟨R, hR⟩ : ∃ R, may m = R := ⟨_, rfl⟩
  have HR : Hid (may m = R) := hR
  rw [hR]
  clear hR h
  have hk0 : Keeps no w (w.alloc (.cells #[.int .i64 k, .int .i64 cl, .int .u64 (q : Nat), .int .u64 (i : Nat), .slice op np cp, .slice ok nk ck, .slice ow nw cw, .slice ov nv cv] 29)) := (Keeps.refl _ _).alloc _
  have HM0 : Hid (IsM (w.alloc (.cells #[.int .i64 k, .int .i64 cl, .int .u64 (q : Nat), .int .u64 (i : Nat), .slice op np cp, .slice ok nk ck, .slice ow nw cw, .slice ov nv cv] 29)) k cl q i op np cp ok nk ck ow nw cw ov nv cv rs m) := H.out.keepsN hk0
  by_cases g1 : 0 ≤ cl
  case neg =>
    have g1' : cl < 0 := by omega
    have HF : Hid (R = false) := by
      show _ = _
      rw [← HR.out]; unfold may topOk
      rw [decide_eq_false (by rw [← HK.out.2.1]; omega), Bool.false_and]
    go_enter Tryz.func19, Tryz.ntmps19
    go_wp2
    go_ret
    exact ⟨by rw [HF.out]; rfl, hk0⟩
  have g1' : ¬ cl < 0 := by omega
  by_cases g2 : cl ≤ 15
  case neg =>
    have g2' : 15 < cl := by omega
    have HF : Hid (R = false) := by
      show _ = _
      rw [← HR.out]; unfold may topOk
      rw [decide_eq_false (by rw [← HK.out.2.1]; omega), Bool.false_and]
    go_enter Tryz.func19, Tryz.ntmps19
    go_wp2
    go_ret
    exact ⟨by rw [HF.out]; rfl, hk0⟩
  have g2' : ¬ 15 < cl := by omega
  by_cases g3 : 1 ≤ q
  case neg =>
    have g3' : (q : Int) < 1 := by omega
    have HF : Hid (R = false) := by
      show _ = _
      rw [← HR.out]; unfold may topOk
      rw [decide_eq_false (by rw [← HK.out.2.2.1]; omega), Bool.false_and]
    go_enter Tryz.func19, Tryz.ntmps19
    go_wp2
    go_ret
    exact ⟨by rw [HF.out]; rfl, hk0⟩
  have g3' : ¬ (q : Int) < 1 := by omega
  have HRF : Hid (R = mayF m) := by
    show _ = _
    rw [← HR.out]; unfold may topOk
    rw [decide_eq_true (by rw [← HK.out.2.1, ← HK.out.2.2.1]; omega), Bool.true_and]
  clear g1 g2 g3 HR
  by_cases e1 : k = 1
  · have HE : Hid (R = (none4 m true true false false && (isId m.id && (wset m.keys && mayP m.pairs m.keys)))) := by
      show _ = _
      rw [HRF.out]; unfold mayF; rw [if_pos (by rw [← HK.out.1]; exact e1)]
    subst e1
    go_enter Tryz.func19, Tryz.ntmps19
    go_wp2_with fail
    refine (only_prepare _ 1 cl q i op np cp ok nk ck ow nw cw ov nv cv rs m HM0.out).mono ?_
    rintro e w2 ⟨rfl, hk2⟩
    obtain ⟨x0, x1, x2, x3, x4, x5, x6, x7⟩ := cells8 (hk2.at (blk_new w _) (fun h => h))
    have hk02 := hk0.trans hk2
    by_cases g4 : none4 m true true false false = true
    case neg =>
      have g4' : none4 m true true false false = false := by simpa using g4
      rw [g4']
      go_wp2
      go_ret
      exact ⟨by rw [HE.out, g4', Bool.false_and]; rfl, hk02⟩
    rw [g4]
    rw [g4, Bool.true_and] at HE
    go_wp2_with fail
    refine (prepare_any w2 1 cl q i op np cp ok nk ck ow nw cw ov nv cv rs m (H.out.keepsN hk02)).mono ?_
    rintro e w3 ⟨rfl, hk3⟩
    go_wp2
    go_ret
    exact ⟨by rw [HE.out]; rfl, hk02.trans hk3⟩
  by_cases e2 : plainK k
  · have HE : Hid (R = (none4 m false false false false && isId i)) := by
      show _ = _
      rw [HRF.out, HK.out.2.2.2]; unfold mayF; rw [if_neg (by rw [← HK.out.1]; exact e1), if_pos (by rw [← HK.out.1]; exact e2)]
    unfold plainK at e2
    clear e1
    rcases e2 with rfl | rfl | rfl | rfl
    all_goals
      go_enter Tryz.func19, Tryz.ntmps19
      go_wp2_with fail
      refine (only_plain _ _ cl q i op np cp ok nk ck ow nw cw ov nv cv rs m HM0.out).mono ?_
      rintro e w2 ⟨rfl, hk2⟩
      obtain ⟨x0, x1, x2, x3, x4, x5, x6, x7⟩ := cells8 (hk2.at (blk_new w _) (fun h => h))
      have hk02 := hk0.trans hk2
      by_cases g4 : none4 m false false false false = true
      case neg =>
        have g4' : none4 m false false false false = false := by simpa using g4
        rw [g4']
        go_wp2
        go_ret
        exact ⟨by rw [HE.out, g4', Bool.false_and]; rfl, hk02⟩
      rw [g4]
      rw [g4, Bool.true_and] at HE
      go_wp2_with fail
      refine (refID_any w2 i).mono ?_
      rintro e wq ⟨rfl, hwq⟩
      subst wq
      go_wp2
      go_ret
      exact ⟨by rw [HE.out]; rfl, hk02⟩
  have n2 : ¬ k = 2 ∧ ¬ k = 5 ∧ ¬ k = 6 ∧ ¬ k = 8 := by unfold plainK at e2; omega
  have n2a := n2.1
  have n2b := n2.2.1
  have n2c := n2.2.2.1
  have n2d := n2.2.2.2
  by_cases e3 : k = 3
  · have HE : Hid (R = (none4 m false true false false && (decide (i = 0) && valK m.keys))) := by
      show _ = _
      rw [HRF.out, HK.out.2.2.2]; unfold mayF; rw [if_neg (by rw [← HK.out.1]; exact e1), if_neg (by rw [← HK.out.1]; exact e2), if_pos (by rw [← HK.out.1]; exact e3)]
    subst e3
    clear n2 n2a n2b n2c n2d e1 e2
    go_enter Tryz.func19, Tryz.ntmps19
    go_wp2_with fail
    refine (only_latest _ 3 cl q i op np cp ok nk ck ow nw cw ov nv cv rs m HM0.out).mono ?_
    rintro e w2 ⟨rfl, hk2⟩
    obtain ⟨x0, x1, x2, x3, x4, x5, x6, x7⟩ := cells8 (hk2.at (blk_new w _) (fun h => h))
    have hk02 := hk0.trans hk2
    by_cases g4 : none4 m false true false false = true
    case neg =>
      have g4' : none4 m false true false false = false := by simpa using g4
      rw [g4']
      go_wp2
      go_ret
      exact ⟨by rw [HE.out, g4', Bool.false_and]; rfl, hk02⟩
    rw [g4]
    rw [g4, Bool.true_and] at HE
    by_cases g5 : i = 0
    case neg =>
      have g5' : ¬ (i : Int) = 0 := by omega
      have g5b : ((i : Int) == 0) = false := by simp; omega
      go_wp2
      go_ret
      exact ⟨by rw [HE.out, decide_eq_false g5, Bool.false_and]; simp [g5'], hk02⟩
    rw [decide_eq_true g5, Bool.true_and] at HE
    have g5' : (i : Int) = 0 := by omega
    have g5b : ((i : Int) == 0) = true := by simp; omega
    clear g5
    go_wp2_with fail
    refine (refSet_any w2 ok nk ck m.keys H.out.nk H.out.fit.klen H.out.fit.keys (H.out.kys.keepsN hk02)).mono ?_
    rintro e w3 ⟨rfl, hk3⟩
    go_wp2
    go_ret
    exact ⟨by rw [HE.out]; rfl, hk02.trans hk3⟩
  by_cases e4 : k = 4
  · have HE : Hid (R = (none4 m false false true false && (decide (i = 0) && mayW m.wants))) := by
      show _ = _
      rw [HRF.out, HK.out.2.2.2]; unfold mayF; rw [if_neg (by rw [← HK.out.1]; exact e1), if_neg (by rw [← HK.out.1]; exact e2), if_neg (by rw [← HK.out.1]; exact e3), if_pos (by rw [← HK.out.1]; exact e4)]
    subst e4
    clear n2 n2a n2b n2c n2d e1 e2 e3
    go_enter Tryz.func19, Tryz.ntmps19
    go_wp2_with fail
    refine (only_byID _ 4 cl q i op np cp ok nk ck ow nw cw ov nv cv rs m HM0.out).mono ?_
    rintro e w2 ⟨rfl, hk2⟩
    obtain ⟨x0, x1, x2, x3, x4, x5, x6, x7⟩ := cells8 (hk2.at (blk_new w _) (fun h => h))
    have hk02 := hk0.trans hk2
    by_cases g4 : none4 m false false true false = true
    case neg =>
      have g4' : none4 m false false true false = false := by simpa using g4
      rw [g4']
      go_wp2
      go_ret
      exact ⟨by rw [HE.out, g4', Bool.false_and]; rfl, hk02⟩
    rw [g4]
    rw [g4, Bool.true_and] at HE
    by_cases g5 : i = 0
    case neg =>
      have g5' : ¬ (i : Int) = 0 := by omega
      have g5b : ((i : Int) == 0) = false := by simp; omega
      go_wp2
      go_ret
      exact ⟨by rw [HE.out, decide_eq_false g5, Bool.false_and]; simp [g5'], hk02⟩
    rw [decide_eq_true g5, Bool.true_and] at HE
    have g5' : (i : Int) = 0 := by omega
    have g5b : ((i : Int) == 0) = true := by simp; omega
    clear g5
    go_wp2_with fail
    refine (refWants_any w2 ow nw cw m.wants H.out.nw H.out.fit.wlen H.out.fit.wants (H.out.wts.keepsN hk02)).mono ?_
    rintro e w3 ⟨rfl, hk3⟩
    go_wp2
    go_ret
    exact ⟨by rw [HE.out]; rfl, hk02.trans hk3⟩
  by_cases e7 : k = 7
  · have HE : Hid (R = (none4 m false false false true && (decide (i = 0) && (decide (nv = 1) && mayV (m.vers.getD 0 v0))))) := by
      show _ = _
      rw [HRF.out, HK.out.2.2.2, H.out.nv]; unfold mayF; rw [if_neg (by rw [← HK.out.1]; exact e1), if_neg (by rw [← HK.out.1]; exact e2), if_neg (by rw [← HK.out.1]; exact e3), if_neg (by rw [← HK.out.1]; exact e4), if_pos (by rw [← HK.out.1]; exact e7)]
    subst e7
    clear n2 n2a n2b n2c n2d e1 e2 e3 e4
    go_enter Tryz.func19, Tryz.ntmps19
    go_wp2_with fail
    refine (only_versions _ 7 cl q i op np cp ok nk ck ow nw cw ov nv cv rs m HM0.out).mono ?_
    rintro e w2 ⟨rfl, hk2⟩
    obtain ⟨x0, x1, x2, x3, x4, x5, x6, x7⟩ := cells8 (hk2.at (blk_new w _) (fun h => h))
    have hk02 := hk0.trans hk2
    by_cases g4 : none4 m false false false true = true
    case neg =>
      have g4' : none4 m false false false true = false := by simpa using g4
      rw [g4']
      go_wp2
      go_ret
      exact ⟨by rw [HE.out, g4', Bool.false_and]; rfl, hk02⟩
    rw [g4]
    rw [g4, Bool.true_and] at HE
    by_cases g5 : i = 0
    case neg =>
      have g5' : ¬ (i : Int) = 0 := by omega
      have g5b : ((i : Int) == 0) = false := by simp; omega
      go_wp2
      go_ret
      exact ⟨by rw [HE.out, decide_eq_false g5, Bool.false_and]; simp [g5'], hk02⟩
    rw [decide_eq_true g5, Bool.true_and] at HE
    have g5' : (i : Int) = 0 := by omega
    have g5b : ((i : Int) == 0) = true := by simp; omega
    clear g5
    by_cases g6 : nv = 1
    case neg =>
      have g6' : ¬ (nv : Int) = 1 := by omega
      have g6b : ((nv : Int) == 1) = false := by simp; omega
      go_wp2
      go_ret
      exact ⟨by rw [HE.out, decide_eq_false g6, Bool.false_and]; simp [g6'], hk02⟩
    rw [decide_eq_true g6, Bool.true_and] at HE
    have hl : m.vers.length = 1 := by rw [← H.out.nv]; exact g6
    have hrl : rs.length = 1 := by rw [H.out.vrs.len]; exact hl
    obtain ⟨b0, off, rfl, d0, d1, d2, d3⟩ := (H.out.vrs.sl.keepsN hk02).atV (j := 0) (by omega)
    have hv0 := (H.out.vrs.each 0 (by omega)).keepsN hk02
    have hfv := getD_fit H.out.fit (by omega)
    obtain ⟨x, hx⟩ : ∃ x, x = rs.getD 0 r0 := ⟨_, rfl⟩
    rw [← hx] at d0 d1 d2 d3 hv0
    obtain ⟨key, id, val, o, n, c⟩ := x
    simp only [Nat.zero_mul, Nat.add_zero] at d0 d1 d2 d3
    clear hx hl hrl
    subst g6
    go_wp2_with fail
    refine (refVersion_any _ (m.vers.getD 0 v0) key id val o n c hv0 hfv).mono ?_
    rintro e w3 ⟨rfl, hk3⟩
    go_wp2
    go_ret
    exact ⟨by rw [HE.out]; rfl, hk02.trans hk3⟩
  · have HF : Hid (R = false) := by
      show _ = _
      rw [HRF.out]; unfold mayF; rw [if_neg (by rw [← HK.out.1]; exact e1), if_neg (by rw [← HK.out.1]; exact e2), if_neg (by rw [← HK.out.1]; exact e3), if_neg (by rw [← HK.out.1]; exact e4), if_neg (by rw [← HK.out.1]; exact e7)]
    clear e2 n2
    go_enter Tryz.func19, Tryz.ntmps19
    go_wp2
    go_ret
    exact ⟨by rw [HF.out]; rfl, hk0⟩
end Go.Proofs.YtjklpcamlppegaaGreat
