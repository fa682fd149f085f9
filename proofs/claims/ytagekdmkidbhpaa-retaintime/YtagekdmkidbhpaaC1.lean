import Derived.Test.YtagekdmkidbhpaaQb
import Derived.Test.YtagekdmkidbhpaaShelf
import Derived.Laws.Bits128
/- Small functions: what may be. -/
namespace Go.Proofs.Ytagekdmkidbhpaa
open Go.RowKit Go.Sort Orl
set_option linter.unusedVariables false
set_option linter.unusedSimpArgs false

theorem and_low (x : Int) (h0 : 0 ≤ x) (h1 : x ≤ 18446744073709551615) : bits .and .u64 x 65535 = x % 65536 := by
  rw [u64_and _ _ h0 (by omega) (by decide) (by decide)]
  show ((x.toNat &&& 65535 : Nat) : Int) = _
  rw [show x.toNat &&& 65535 = x.toNat % 65536 from Nat.and_two_pow_sub_one_eq_mod _ 16]
  omega
theorem isSeq_yes (w : World) (s : Int) (h1 : 1 ≤ s) (h2 : s ≤ 281474976710655) : Calls Try.prog 55 #[.int .u64 s] w fun e w' => e = .returned (.bool true) ∧ w' = w := by
  go_enter Try.func55, Try.ntmps55
  go_wp2
  go_ret
  exact ⟨rfl, rfl⟩
theorem isSeq_zero (w : World) : Calls Try.prog 55 #[.int .u64 0] w fun e w' => e = .returned (.bool false) ∧ w' = w := by
  go_enter Try.func55, Try.ntmps55
  go_wp2
  go_ret
  exact ⟨rfl, rfl⟩
theorem isWrite_any (w : World) (i : Nat) (hi : i < 18446744073709551616) : Calls Try.prog 25 #[.int .u64 ((i : Nat) : Int)] w fun e w' => e = .returned (.bool (decide (65536 ≤ i))) ∧ w' = w := by
  by_cases h : 65536 ≤ i
  · have hS : Calls Try.prog 40 #[.int .u64 ((i : Nat) : Int)] w fun e w' => e = .returned (.tuple #[.int .u64 ((i : Int) / 65536), .int .i64 ((i : Int) % 65536), .int .i64 0]) ∧ w' = w := by
      have hand := and_low i (by omega) (by omega)
      have h1 : (i : Int) ≤ 18446744073709551615 := by omega
      go_enter Try.func40, Try.ntmps40
      go_wp2_with fail
      refine (isSeq_yes w ((i : Int) / 65536) (by omega) (by omega)).mono ?_
      rintro e w1 ⟨rfl, rfl⟩
      go_wp2
      go_ret3
      exact ⟨rfl, rfl⟩
    have hd : decide (65536 ≤ i) = true := by simp [h]
    rw [hd]
    clear hd
    go_enter Try.func25, Try.ntmps25
    go_wp2_with fail
    refine hS.mono ?_
    rintro e w1 ⟨rfl, rfl⟩
    go_wp2
    go_ret
    exact ⟨rfl, rfl⟩
  · have hS : Calls Try.prog 40 #[.int .u64 ((i : Nat) : Int)] w fun e w' => e = .returned (.tuple #[.int .u64 0, .int .i64 0, .int .i64 1]) ∧ w' = w := by
      have hdd : (i : Int) / 65536 = 0 := by omega
      have h1 : (i : Int) ≤ 18446744073709551615 := by omega
      go_enter Try.func40, Try.ntmps40
      go_wp2_with fail
      refine (isSeq_zero w).mono ?_
      rintro e w1 ⟨rfl, rfl⟩
      go_wp2
      go_ret3
      exact ⟨rfl, rfl⟩
    have hd : decide (65536 ≤ i) = false := by simp [h]
    rw [hd]
    clear hd
    go_enter Try.func25, Try.ntmps25
    go_wp2_with fail
    refine hS.mono ?_
    rintro e w1 ⟨rfl, rfl⟩
    go_wp2
    go_ret
    exact ⟨rfl, rfl⟩
def tickB (t : Int) : Bool := decide (0 ≤ t ∧ t ≤ 1099511627776)
theorem isTick_any (w : World) (t : Int) : Calls Try.prog 28 #[.int .i64 t] w fun e w' => e = .returned (.bool (tickB t)) ∧ w' = w := by
  by_cases h : 0 ≤ t
  · by_cases h2 : t ≤ 1099511627776
    · have hd : tickB t = true := by simp [tickB, h, h2]
      rw [hd]
      go_enter Try.func28, Try.ntmps28
      go_wp2
      go_ret
      exact ⟨rfl, rfl⟩
    · have hd : tickB t = false := by simp [tickB]; intro; omega
      rw [hd]
      go_enter Try.func28, Try.ntmps28
      go_wp2
      go_ret
      exact ⟨rfl, rfl⟩
  · have hd : tickB t = false := by simp [tickB]; omega
    rw [hd]
    go_enter Try.func28, Try.ntmps28
    go_wp2
    go_ret
    exact ⟨rfl, rfl⟩

/-! ### comparing, searching -/
def inn (xs : List Tx) (s : Tx) : Bool := xs.any fun x => decide (x = s)
theorem inn_iff (xs : List Tx) (s : Tx) : inn xs s = true ↔ s ∈ xs := by
  simp [inn, List.any_eq_true]
theorem inn_no {xs : List Tx} {s : Tx} (h : s ∉ xs) : inn xs s = false := by
  cases e : inn xs s with
  | false => rfl
  | true => exact absurd ((inn_iff xs s).1 e) h
def cmpT (x y : Tx) : Int := if lts x y then -1 else if lts y x then 1 else 0
theorem compare_list : ∀ a b : List UInt8, Lib.compareBytes a b = if decide (a < b) then -1 else if decide (b < a) then 1 else 0
  | [], [] => by simp [Lib.compareBytes]
  | [], b :: bs => by simp [Lib.compareBytes]
  | a :: r, [] => by simp [Lib.compareBytes]
  | a :: r, b :: bs => by
    have ih := compare_list r bs
    unfold Lib.compareBytes
    simp only [List.cons_lt_cons_iff, decide_eq_true_eq] at ih ⊢
    by_cases h1 : a < b
    · simp [h1]
    · by_cases h2 : b < a
      · have : ¬ a = b := fun e => by subst e; exact absurd h2 (by simp)
        simp [h1, h2, this]
      · have e : a = b := by
          have a1 : ¬ a.toNat < b.toNat := fun h => h1 h
          have a2 : ¬ b.toNat < a.toNat := fun h => h2 h
          exact UInt8.toNat_inj.1 (by omega)
        subst e
        simp [ih]
theorem compare_eq (x y : Tx) : Lib.compareBytes x.data.toList y.data.toList = cmpT x y := by
  rw [compare_list, ← lts_eq, ← lts_eq]; rfl
theorem compare_any (x y : Tx) (w : World) : Calls Try.prog 42 #[.string x, .string y] w fun e w' => e = .returned (.int .i64 (cmpT x y)) ∧ w' = w := by
  have h := Any.strings_Compare Try.laysCompare x y w
  rw [compare_eq] at h
  exact h
theorem cmpT_lt {x y : Tx} (h : lts x y = true) : cmpT x y = -1 := by simp [cmpT, h]
theorem cmpT_ge {x y : Tx} (h : lts x y = false) : 0 ≤ cmpT x y := by simp [cmpT, h]; split <;> omega

theorem search_pos (xs : List Tx) (s : Tx) (hi : Inc lts xs) :
    ∃ k, Lib.bsGo (fun t => Op.bytesLess ((if t < xs.length then xs.getD t e0 else s) : Tx).toList s.toList) xs.length 0 xs.length = k ∧ decide (k < xs.length ∧ (if k < xs.length then xs.getD k e0 else s) = s) = inn xs s := by
  have key : ∃ k, k ≤ xs.length ∧ (∀ t, t < k → lts (xs.getD t e0) s = true) ∧ (∀ t, k ≤ t → t < xs.length → lts (xs.getD t e0) s = false) := by
    have : ∀ (m : Nat), m ≤ xs.length → ∃ k, k ≤ m ∧ (∀ t, t < k → lts (xs.getD t e0) s = true) ∧ (∀ t, k ≤ t → t < m → lts (xs.getD t e0) s = false) := by
      intro m
      induction m with
      | zero => intro _; exact ⟨0, Nat.le_refl _, fun t h => by omega, fun t _ h => by omega⟩
      | succ m ih =>
        intro hm
        cases e : lts (xs.getD m e0) s
        · obtain ⟨k, hk, h1, h2⟩ := ih (by omega)
          refine ⟨k, by omega, h1, fun t ht htm => ?_⟩
          by_cases h : t = m
          · subst h; exact e
          · exact h2 t ht (by omega)
        · refine ⟨m + 1, Nat.le_refl _, fun t ht => ?_, fun t h1 h2 => by omega⟩
          by_cases h : t = m
          · subst h; exact e
          · exact swoT.trans _ _ _ (inc_getD hi e0 (i := t) (j := m) (by omega) (by omega)) e
    exact this xs.length (Nat.le_refl _)
  obtain ⟨k, hk, h1, h2⟩ := key
  have hb : Lib.bsGo (fun t => Op.bytesLess ((if t < xs.length then xs.getD t e0 else s) : Tx).toList s.toList) xs.length 0 xs.length = k := by
    refine Lib.bsGo_spec _ k (fun t ht => ?_) (fun t ht => ?_) _ _ _ (by omega) (by omega) hk
    · show lts (if t < xs.length then xs.getD t e0 else s) s = true
      rw [if_pos (by omega)]; exact h1 t ht
    · show lts (if t < xs.length then xs.getD t e0 else s) s = false
      split
      · exact h2 t ht (by assumption)
      · exact swoT.irrefl _
  refine ⟨k, hb, ?_⟩
  by_cases hm : s ∈ xs
  · rw [(inn_iff xs s).2 hm]
    obtain ⟨j, hj, rfl⟩ := List.getElem_of_mem hm
    have hjd : xs[j] = xs.getD j e0 := by simp [hj]
    have : k = j := by
      have a1 : ¬ j < k := fun h => by
        have := h1 j h; rw [← hjd, swoT.irrefl] at this; cases this
      have a2 : ¬ k < j := fun h => by
        have := h2 k (Nat.le_refl _) (by omega)
        rw [hjd, inc_getD hi e0 h hj] at this; cases this
      omega
    subst this
    rw [decide_eq_true_eq, if_pos hj]
    exact ⟨hj, hjd.symm⟩
  · rw [inn_no hm, decide_eq_false_iff_not]
    rintro ⟨h3, h4⟩
    rw [if_pos h3] at h4
    exact hm (by rw [← h4]; exact getD_mem_lt e0 h3)
theorem search_any (w : World) (a : Option Addr) (n c : Nat) (xs : List Tx) (s : Tx) (hn : n = xs.length) (hl : xs.length ≤ 140737488355328) (hs : Sl TE w a c xs) (hi : Inc lts xs) :
    Calls Try.prog 46 #[.slice a n c, .string s] w fun e w' => ∃ i : Nat, e = .returned (.tuple #[.int .i64 ((i : Nat) : Int), .bool (inn xs s)]) ∧ Hid (s ∈ xs → i < xs.length ∧ xs.getD i e0 = s) ∧ Keeps no w w' := by
  subst hn
  rcases hs.row with e | ⟨b, off, rfl, hc⟩
  · subst e
    have hcon := Any2.slices_BinarySearch_string_empty Try.laysSearch a c s w
    change Calls Try.prog 46 _ _ _ at hcon
    refine hcon.mono ?_
    rintro e w' ⟨rfl, rfl⟩
    exact ⟨0, rfl, fun h => absurd h (by simp), Keeps.refl _ _⟩
  · obtain ⟨k, hb, hd⟩ := search_pos xs s hi
    have hcon := Any2.slices_BinarySearch_string Try.laysSearch b off xs.length c (fun t => if t < xs.length then xs.getD t e0 else s) s w (by omega) (fun j hj => by
      obtain ⟨b', off', e, h⟩ := hs.at hj
      cases e
      rw [if_pos hj]
      exact h)
    rw [hb, hd] at hcon
    change Calls Try.prog 46 _ _ _ at hcon
    refine hcon.mono ?_
    rintro e w' ⟨rfl, q, rfl⟩
    refine ⟨k, rfl, fun hm => ?_, (Keeps.refl _ _).drewN _⟩
    rw [(inn_iff xs s).2 hm, decide_eq_true_eq] at hd
    obtain ⟨h1, h2⟩ := hd
    rw [if_pos h1] at h2
    exact ⟨h1, h2⟩
theorem among_any (w : World) (a : Option Addr) (n c : Nat) (xs : List Tx) (s : Tx) (hn : n = xs.length) (hl : xs.length ≤ 140737488355328) (hs : Sl TE w a c xs) (hi : Inc lts xs) :
    Calls Try.prog 43 #[.string s, .slice a n c] w fun e w' => e = .returned (.bool (inn xs s)) ∧ Keeps no w w' := by
  have hc := search_any w a n c xs s hn hl hs hi
  clear hn hl hi
  generalize inn xs s = B at hc ⊢
  go_enter Try.func43, Try.ntmps43
  go_wp2_with fail
  refine hc.mono ?_
  rintro e w1 ⟨i, rfl, _, hk⟩
  go_wp2
  go_ret
  exact ⟨rfl, hk⟩

/-! ### rising -/
theorem compareK (x y : Tx) (w : World) : Calls Try.prog 42 #[.string x, .string y] w fun e w' => e = .returned (.int .i64 (cmpT x y)) ∧ Keeps no w w' :=
  (compare_any x y w).mono fun e w' ⟨h1, h2⟩ => ⟨h1, by rw [h2]; exact Keeps.refl _ _⟩
set_option maxRecDepth 10000 in
theorem risingT_any (w : World) (a : Option Addr) (n c : Nat) (xs : List Tx) (hn : n = xs.length) (hl : xs.length ≤ 140737488355328) (hs : Sl TE w a c xs) :
    Calls Try.prog 41 #[.slice a n c, .func (.func 42) #[] #[]] w fun e w' => e = .returned (.bool (rising lts xs)) ∧ Keeps no w w' := by
  have HA : Hid (n = xs.length) := hn
  have hA : (n : Int) ≤ 140737488355328 := by omega
  clear hn hl
  obtain ⟨R, hR⟩ : ∃ R, rising lts xs = R := ⟨_, rfl⟩
  have HR : Hid (rising lts xs = R) := hR
  rw [hR]
  clear hR
  have HS : Hid (Sl TE w a c xs) := hs
  clear hs
  go_enter Try.func41, Try.ntmps41
  go_wp2_with fail
  go_loopw [5] (fun i wr => ∃ k : Nat, k ≤ n ∧ i = .int .i64 ((k : Int) + 1) ∧ Hid (Keeps no w wr) ∧ Hid (∀ j, j < k → j + 1 < xs.length → lts (xs.getD j e0) (xs.getD (j + 1) e0) = true)) (fun i _ => n + 1 - (intOf i).toNat)
  case atStart => exact ⟨0, by omega, rfl, Keeps.refl _ _, fun j hj => absurd hj (Nat.not_lt_zero _)⟩
  case round =>
    obtain ⟨k, hk, rfl, HK, HT⟩ := hrel
    by_cases h2 : k + 1 < n
    · have hka : k + 1 < xs.length := by have := HA.out; omega
      obtain ⟨b1, off1, rfl, d1⟩ := (HS.out.keepsN HK.out).at (j := k) (by omega)
      obtain ⟨b2, off2, e2, d2⟩ := (HS.out.keepsN HK.out).at hka
      cases e2
      obtain ⟨x, hx⟩ : ∃ x, x = xs.getD k e0 := ⟨_, rfl⟩
      obtain ⟨y, hy⟩ : ∃ y, y = xs.getD (k + 1) e0 := ⟨_, rfl⟩
      rw [← hx] at d1
      rw [← hy] at d2
      have HX : Hid (x = xs.getD k e0) := hx
      have HY : Hid (y = xs.getD (k + 1) e0) := hy
      clear hx hy hka
      have h3 : (k : Int) + 1 < n := by omega
      have h4 : (k : Int) < n := by omega
      have hwk : IntKind.i64.wrap (k : Int) = (k : Int) := by rw [IntKind.wrap_i64]; omega
      have z1 := cell_regrown d1
      have z2 := cell_regrown d2
      have hq := fun W => compareK x y W
      cases hxy : lts x y
      · have hge := cmpT_ge hxy
        generalize cmpT x y = C at hq hge
        have cS := call_grown (W := wr) (fun X hX => hq X)
        clear hq
        go_wp2_with fail
        refine wp_region_quiet_below (by kernel_rfl) (by kernel_rfl) ?_
        repeat (go_big_quiet_step (exact cS _ _))
        refine wpQuiet_nil ?_
        intro _ hw'
        obtain ⟨⟨dq, osq⟩, rfl⟩ := hw'
        have K1 : Hid (Keeps no w (Sort.grow (redrawn wr dq) osq)) := HK.out.trans (keeps_grownQ ..)
        generalize Sort.grow (redrawn wr dq) osq = u1 at K1 ⊢
        clear d1 d2 z1 z2 cS
        go_wp2_with fail
        go_ret
        refine ⟨?_, K1.out⟩
        have hf := rising_fail (lt := lts) e0 xs k (by have := HA.out; omega) (by rw [← HX.out, ← HY.out]; exact hxy)
        rw [← HR.out, hf]; rfl
      · have hge := cmpT_lt hxy
        rw [hge] at hq
        have cS := call_grown (W := wr) (fun X hX => hq X)
        clear hq hge
        go_wp2_with fail
        refine wp_region_quiet_below (by kernel_rfl) (by kernel_rfl) ?_
        repeat (go_big_quiet_step (exact cS _ _))
        refine wpQuiet_nil ?_
        intro _ hw'
        obtain ⟨⟨dq, osq⟩, rfl⟩ := hw'
        have K1 : Hid (Keeps no w (Sort.grow (redrawn wr dq) osq)) := HK.out.trans (keeps_grownQ ..)
        generalize Sort.grow (redrawn wr dq) osq = u1 at K1 ⊢
        clear d1 d2 z1 z2 cS
        go_wp2_with fail
        go_roundw
        case rel =>
          refine ⟨k + 1, by omega, by go_num, K1, fun j hj hj2 => ?_⟩
          by_cases e : j = k
          · subst e; rw [← HX.out, ← HY.out]; exact hxy
          · exact HT.out j (by omega) hj2
        case measure => simp [intOf]; omega
    · have h3 : ¬ (k : Int) + 1 < n := by omega
      go_wp2_with fail
      go_ret
      refine ⟨?_, HK.out⟩
      have hf := rising_of_all (lt := lts) e0 xs (fun i hi => HT.out i (by have := HA.out; omega) hi)
      rw [← HR.out, hf]; rfl

end Go.Proofs.Ytagekdmkidbhpaa
