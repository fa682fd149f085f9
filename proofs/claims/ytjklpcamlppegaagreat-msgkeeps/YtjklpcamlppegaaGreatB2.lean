import Derived.Test.YtjklpcamlppegaaGreatB1
namespace Go.Proofs.YtjklpcamlppegaaGreat
open Go.RowKit Go.Sort Orl
set_option linter.unusedVariables false
set_option linter.unusedSimpArgs false

set_option maxRecDepth 10000 in
theorem sorted_any (w : World) (a : Option Addr) (n c : Nat) (xs : List Tx) (hn : n = xs.length) (hl : Small xs) (hsz : ∀ x ∈ xs, x.size ≤ maxLen) (hs : Sl TE w a c xs) :
    Calls Tryz.prog 86 #[.slice a n c] w fun e w' => ∃ v, e = .returned (.tuple #[v, .int .i64 (if valK xs then 0 else 40)]) ∧ Gives TE w (if valK xs then isT xs else []) v w' := by
  have HA : Hid (n = xs.length) := hn
  have hA : (n : Int) ≤ 100000 := by unfold Small at hl; omega
  have HL : Hid (Small xs) := hl
  have HZ : Hid (∀ x ∈ xs, x.size ≤ maxLen) := hsz
  obtain ⟨R, hR⟩ : ∃ R, valK xs = R := ⟨_, rfl⟩
  have HR : Hid (valK xs = R) := hR
  rw [hR]
  have none_ok : ∀ w', Keeps no w w' → Gives TE w [] (.slice none 0 0) w' := fun w' hk => ⟨none, 0, 0, rfl, (show 0 = _ by simp), own_nil _, new_none _, hk⟩
  by_cases h1 : n = 0
  · have hf : R = false := by
      rw [← hR]; cases e : valK xs with
      | false => rfl
      | true => have := valK_size e; omega
    clear hR hn hl hsz
    subst hf
    subst h1
    go_enter Tryz.func86, Tryz.ntmps86
    go_wp2_with fail
    go_ret2
    exact ⟨_, rfl, none_ok _ (Keeps.refl _ _)⟩
  by_cases h2 : 1024 < n
  · have hf : R = false := by
      rw [← hR]; cases e : valK xs with
      | false => rfl
      | true => have := valK_size e; omega
    clear hR hn hl hsz
    subst hf
    have h1' : ¬ (n : Int) = 0 := by omega
    have h2' : (1024 : Int) < n := by omega
    clear h1 h2
    go_enter Tryz.func86, Tryz.ntmps86
    go_wp2_with fail
    go_ret2
    exact ⟨_, rfl, none_ok _ (Keeps.refl _ _)⟩
  have h1' : ¬ (n : Int) = 0 := by omega
  have h2' : ¬ (1024 : Int) < n := by omega
  have H12 : Hid (1 ≤ n ∧ n ≤ 1024) := ⟨by omega, by omega⟩
  have h1b : ((n : Int) == 0) = false := by simpa using h1'
  clear hR hn hl hsz h1 h2
  go_enter Tryz.func86, Tryz.ntmps86
  go_wp2_with fail
  go_loop [17] (fun i => ∃ k : Nat, k ≤ n ∧ i = .int .i64 k ∧ Hid (∀ j, j < k → (xs.getD j e0).size ≤ 65535)) (fun i => n - (intOf i).toNat)
  case atStart => exact ⟨0, by omega, rfl, fun j hj => absurd hj (Nat.not_lt_zero _)⟩
  case round =>
    obtain ⟨k, hk, rfl, HT⟩ := hrel
    by_cases h2 : k < n
    · have hka : k < xs.length := by have := HA.out; omega
      obtain ⟨b1, off1, rfl, d1⟩ := hs.at hka
      obtain ⟨x, hx⟩ : ∃ x, x = xs.getD k e0 := ⟨_, rfl⟩
      rw [← hx] at d1
      have hxz : x.size ≤ 9223372036854775807 := by
        have := HZ.out x (by rw [hx]; exact getD_mem_lt _ hka)
        unfold maxLen at this; omega
      have HX : Hid (x = xs.getD k e0) := hx
      clear hx hka
      by_cases hlong : (65535 : Int) < x.size
      · have hv := valK_long (l := xs) (k := k) (by have := HA.out; omega) (by rw [← HX.out]; omega)
        have hRf : R = false := by rw [← HR.out, hv]
        subst hRf
        clear hv
        go_wp2_with fail
        go_ret2
        exact ⟨_, rfl, none_ok _ (Keeps.refl _ _)⟩
      · go_wp2_with fail
        go_round
        case rel =>
          refine ⟨k + 1, by omega, by go_num, fun j hj => ?_⟩
          by_cases e : j = k
          · subst e; rw [← HX.out]; omega
          · exact HT.out j (by omega)
        case measure => simp [intOf] <;> omega
    · have hv : valK xs = rising lts (isT xs) := valK_of (by have := HA.out; have := H12.out; omega) (by have := HA.out; have := H12.out; omega) (fun j hj => HT.out j (by have := HA.out; omega))
      rw [HR.out] at hv
      have HV : Hid (R = rising lts (isT xs)) := hv
      clear hv
      go_wp2_with fail
      refine (clone_any w a n c xs HA.out hs HL.out).mono ?_
      rintro e w1 ⟨v, rfl, o1, m1, d1, rfl, hm1, ho1, hnw1, hkp1⟩
      obtain ⟨g, rfl⟩ : ∃ g, o1 = some ⟨g, 0, none⟩ := by
        rcases ho1.shape with ⟨_, _, e⟩ | ⟨g, cur, e, _⟩
        · have := HA.out; have := H12.out; subst e; simp at this; omega
        · exact ⟨g, e⟩
      go_wp2_with fail
      refine (sort_any w1 g m1 d1 xs hm1.out HL.out ho1).mono ?_
      rintro e w2 ⟨rfl, ho2, hkp2⟩
      have hk2 : Keeps no w w2 := hkp1.then hkp2 (fun i hi => .inr (hnw1 i hi))
      have hsm : Small (isT xs) := by unfold Small; rw [isT_length]; exact HL.out
      have hm2 : m1 = (isT xs).length := by rw [isT_length]; exact hm1.out
      have HM2 : Hid (m1 = (isT xs).length) := hm2
      have hri := rising_any w2 _ m1 d1 (isT xs) hm2 hsm ho2.sl
      rw [← HV.out] at hri
      clear hm2
      cases R
      · go_wp2_with fail
        refine hri.mono ?_
        rintro e w3 ⟨rfl, hk3⟩
        go_wp2_with fail
        go_ret2
        exact ⟨_, rfl, none_ok _ (hk2.trans hk3)⟩
      · go_wp2_with fail
        refine hri.mono ?_
        rintro e w3 ⟨rfl, hk3⟩
        go_wp2_with fail
        go_ret2
        exact ⟨_, rfl, some ⟨g, 0, none⟩, m1, d1, rfl, HM2, ho2.keepsN hk3, hnw1, hk2.trans hk3⟩

theorem valid_any (w : World) (a : Option Addr) (n c : Nat) (xs : List Tx) (hn : n = xs.length) (hl : Small xs) (hsz : ∀ x ∈ xs, x.size ≤ maxLen) (hs : Sl TE w a c xs) :
    Calls Tryz.prog 48 #[.slice a n c] w fun e w' => e = .returned (.bool (valK xs)) ∧ Keeps no w w' := by
  have hv := sorted_any w a n c xs hn hl hsz hs
  clear hn hl hsz
  cases e : valK xs <;> rw [e] at hv
  all_goals
    (clear e
     go_enter Tryz.func48, Tryz.ntmps48
     go_wp2_with fail
     refine hv.mono ?_
     rintro e w' ⟨v, rfl, o, m, d, rfl, hm, ho, hnw, hk⟩
     go_wp2_with fail
     go_ret
     exact ⟨rfl, hk⟩)

theorem search_in (xs : List Tx) (s : Tx) (hi : Inc lts xs) :
    decide (Lib.bsGo (fun t => Op.bytesLess ((if t < xs.length then xs.getD t e0 else s) : Tx).toList s.toList) xs.length 0 xs.length < xs.length ∧ (if Lib.bsGo (fun t => Op.bytesLess ((if t < xs.length then xs.getD t e0 else s) : Tx).toList s.toList) xs.length 0 xs.length < xs.length then xs.getD (Lib.bsGo (fun t => Op.bytesLess ((if t < xs.length then xs.getD t e0 else s) : Tx).toList s.toList) xs.length 0 xs.length) e0 else s) = s) = inn xs s := by
  -- the number of those below s
  have key : ∃ k, k ≤ xs.length ∧ (∀ t, t < k → lts (xs.getD t e0) s = true) ∧ (∀ t, k ≤ t → t < xs.length → lts (xs.getD t e0) s = false) := by
    have : ∀ (m : Nat), m ≤ xs.length → ∃ k, k ≤ m ∧ (∀ t, t < k → lts (xs.getD t e0) s = true) ∧ (∀ t, k ≤ t → t < m → lts (xs.getD t e0) s = false) := by
      intro m
      induction m with
      | zero => intro _; exact ⟨0, Nat.le_refl _, fun t h => by omega, fun t _ h => by omega⟩
      | succ m ih =>
        intro hm
        cases e : lts (xs.getD m e0) s
        · obtain ⟨k, hk, h1, h2⟩ := ih (by omega)
          refine ⟨k, by omega, h1, fun t ht htm => ?_⟩
          by_cases h : t = m
          · subst h; exact e
          · exact h2 t ht (by omega)
        · refine ⟨m + 1, Nat.le_refl _, fun t ht => ?_, fun t h1 h2 => by omega⟩
          by_cases h : t = m
          · subst h; exact e
          · exact swoT.trans _ _ _ (inc_getD hi e0 (i := t) (j := m) (by omega) (by omega)) e
    exact this xs.length (Nat.le_refl _)
  obtain ⟨k, hk, h1, h2⟩ := key
  have hb : Lib.bsGo (fun t => Op.bytesLess ((if t < xs.length then xs.getD t e0 else s) : Tx).toList s.toList) xs.length 0 xs.length = k := by
    refine Lib.bsGo_spec _ k (fun t ht => ?_) (fun t ht => ?_) _ _ _ (by omega) (by omega) hk
    · show lts (if t < xs.length then xs.getD t e0 else s) s = true
      rw [if_pos (by omega)]; exact h1 t ht
    · show lts (if t < xs.length then xs.getD t e0 else s) s = false
      split
      · exact h2 t ht (by assumption)
      · exact swoT.irrefl _
  rw [hb]
  by_cases hm : s ∈ xs
  · rw [(inn_iff xs s).2 hm]
    obtain ⟨j, hj, rfl⟩ := List.getElem_of_mem hm
    have hjd : xs[j] = xs.getD j e0 := by simp [hj]
    have : k = j := by
      have a1 : ¬ j < k := fun h => by
        have := h1 j h; rw [← hjd, swoT.irrefl] at this; cases this
      have a2 : ¬ k < j := fun h => by
        have := h2 k (Nat.le_refl _) (by omega)
        rw [hjd, inc_getD hi e0 h hj] at this; cases this
      omega
    subst this
    rw [decide_eq_true_eq, if_pos hj]
    exact ⟨hj, hjd.symm⟩
  · rw [inn_no hm, decide_eq_false_iff_not]
    rintro ⟨h3, h4⟩
    rw [if_pos h3] at h4
    exact hm (by rw [← h4]; exact getD_mem_lt e0 h3)

theorem search_any (w : World) (a : Option Addr) (n c : Nat) (xs : List Tx) (s : Tx) (hn : n = xs.length) (hl : Small xs) (hs : Sl TE w a c xs) (hi : Inc lts xs) :
    Calls Tryz.prog 106 #[.slice a n c, .string s] w fun e w' => (∃ i : Int, e = .returned (.tuple #[.int .i64 i, .bool (inn xs s)])) ∧ Keeps no w w' := by
  subst hn
  rcases hs.row with e | ⟨b, off, rfl, hc⟩
  · subst e
    have hcon := Any2.slices_BinarySearch_string_empty Tryz.laysSearch a c s w
    change Calls Tryz.prog 106 _ _ _ at hcon
    refine hcon.mono ?_
    rintro e w' ⟨rfl, rfl⟩
    exact ⟨⟨0, rfl⟩, Keeps.refl _ _⟩
  · have hcon := Any2.slices_BinarySearch_string Tryz.laysSearch b off xs.length c (fun t => if t < xs.length then xs.getD t e0 else s) s w (by unfold Small at hl; omega) (fun j hj => by
      obtain ⟨b', off', e, h⟩ := hs.at hj
      cases e
      rw [if_pos hj]
      exact h)
    rw [search_in xs s hi] at hcon
    change Calls Tryz.prog 106 _ _ _ at hcon
    refine hcon.mono ?_
    rintro e w' ⟨rfl, q, rfl⟩
    exact ⟨⟨_, rfl⟩, (Keeps.refl _ _).drewN _⟩

theorem has_any (w : World) (a : Option Addr) (n c : Nat) (xs : List Tx) (s : Tx) (hn : n = xs.length) (hl : Small xs) (hs : Sl TE w a c xs) :
    Calls Tryz.prog 87 #[.slice a n c, .string s] w fun e w' => e = .returned (.bool (rising lts xs && inn xs s)) ∧ Keeps no w w' := by
  have hv := rising_any w a n c xs hn hl hs
  have HN : Hid (n = xs.length) := hn
  have HL : Hid (Small xs) := hl
  cases e : rising lts xs <;> rw [e] at hv
  · clear e hn hl
    go_enter Tryz.func87, Tryz.ntmps87
    go_wp2_with fail
    refine hv.mono ?_
    rintro e w' ⟨rfl, hk⟩
    go_wp2_with fail
    go_ret
    exact ⟨by simp, hk⟩
  · have hinc : Hid (Inc lts xs) := (rising_iff swoT xs).1 e
    clear e hn hl
    obtain ⟨R, hR⟩ : ∃ R, inn xs s = R := ⟨_, rfl⟩
    rw [hR]
    have HR : Hid (inn xs s = R) := hR
    clear hR
    go_enter Tryz.func87, Tryz.ntmps87
    go_wp2_with fail
    refine hv.mono ?_
    rintro e w' ⟨rfl, hk⟩
    have hi := search_any w' a n c xs s HN.out HL.out (hs.keepsN hk) hinc
    rw [HR.out] at hi
    go_wp2_with fail
    refine hi.mono ?_
    rintro e w2 ⟨⟨i, rfl⟩, hk2⟩
    go_wp2_with fail
    go_ret
    exact ⟨by simp, hk.trans hk2⟩
end Go.Proofs.YtjklpcamlppegaaGreat
