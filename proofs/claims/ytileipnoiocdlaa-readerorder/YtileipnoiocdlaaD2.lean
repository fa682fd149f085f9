import Derived.Test.YtileipnoiocdlaaH1
import Derived.Test.YtileipnoiocdlaaShelf
import Derived.Test.YtileipnoiocdlaaD1
/- slices.BinarySearch. -/
namespace Go.Proofs.Ytileipnoiocdlaa
open Go.RowKit Go.Sort Orl
set_option linter.unusedVariables false
set_option linter.unusedSimpArgs false

theorem inn_out {xs : List Tx} {s : Tx} (h : s ∉ xs) : inn xs s = false := by rw [← Bool.not_eq_true, inn_iff]; exact h
theorem search_in (xs : List Tx) (s : Tx) (hi : Inc lts xs) :
    decide (Lib.bsGo (fun t => Op.bytesLess ((if t < xs.length then xs.getD t e0 else s) : Tx).toList s.toList) xs.length 0 xs.length < xs.length ∧ (if Lib.bsGo (fun t => Op.bytesLess ((if t < xs.length then xs.getD t e0 else s) : Tx).toList s.toList) xs.length 0 xs.length < xs.length then xs.getD (Lib.bsGo (fun t => Op.bytesLess ((if t < xs.length then xs.getD t e0 else s) : Tx).toList s.toList) xs.length 0 xs.length) e0 else s) = s) = inn xs s := by
  -- the number of those below s
  have key : ∃ k, k ≤ xs.length ∧ (∀ t, t < k → lts (xs.getD t e0) s = true) ∧ (∀ t, k ≤ t → t < xs.length → lts (xs.getD t e0) s = false) := by
    have : ∀ (m : Nat), m ≤ xs.length → ∃ k, k ≤ m ∧ (∀ t, t < k → lts (xs.getD t e0) s = true) ∧ (∀ t, k ≤ t → t < m → lts (xs.getD t e0) s = false) := by
      intro m
      induction m with
      | zero => intro _; exact ⟨0, Nat.le_refl _, fun t h => by omega, fun t _ h => by omega⟩
      | succ m ih =>
        intro hm
        cases e : lts (xs.getD m e0) s
        · obtain ⟨k, hk, h1, h2⟩ := ih (by omega)
          refine ⟨k, by omega, h1, fun t ht htm => ?_⟩
          by_cases h : t = m
          · subst h; exact e
          · exact h2 t ht (by omega)
        · refine ⟨m + 1, Nat.le_refl _, fun t ht => ?_, fun t h1 h2 => by omega⟩
          by_cases h : t = m
          · subst h; exact e
          · exact swoT.trans _ _ _ (inc_getD hi e0 (i := t) (j := m) (by omega) (by omega)) e
    exact this xs.length (Nat.le_refl _)
  obtain ⟨k, hk, h1, h2⟩ := key
  have hb : Lib.bsGo (fun t => Op.bytesLess ((if t < xs.length then xs.getD t e0 else s) : Tx).toList s.toList) xs.length 0 xs.length = k := by
    refine Lib.bsGo_spec _ k (fun t ht => ?_) (fun t ht => ?_) _ _ _ (by omega) (by omega) hk
    · show lts (if t < xs.length then xs.getD t e0 else s) s = true
      rw [if_pos (by omega)]; exact h1 t ht
    · show lts (if t < xs.length then xs.getD t e0 else s) s = false
      split
      · exact h2 t ht (by assumption)
      · exact swoT.irrefl _
  rw [hb]
  by_cases hm : s ∈ xs
  · rw [(inn_iff xs s).2 hm]
    obtain ⟨j, hj, rfl⟩ := List.getElem_of_mem hm
    have hjd : xs[j] = xs.getD j e0 := by simp [hj]
    have : k = j := by
      have a1 : ¬ j < k := fun h => by
        have := h1 j h; rw [← hjd, swoT.irrefl] at this; cases this
      have a2 : ¬ k < j := fun h => by
        have := h2 k (Nat.le_refl _) (by omega)
        rw [hjd, inc_getD hi e0 h hj] at this; cases this
      omega
    subst this
    rw [decide_eq_true_eq, if_pos hj]
    exact ⟨hj, hjd.symm⟩
  · rw [inn_out hm, decide_eq_false_iff_not]
    rintro ⟨h3, h4⟩
    rw [if_pos h3] at h4
    exact hm (by rw [← h4]; exact getD_mem_lt e0 h3)

theorem search_any (w : World) (a : Option Addr) (n c : Nat) (xs : List Tx) (s : Tx) (hn : n = xs.length) (hl : Small xs) (hs : Sl TE w a c xs) (hi : Inc lts xs) :
    Calls Try.prog 99 #[.slice a n c, .string s] w fun e w' => (∃ i : Int, e = .returned (.tuple #[.int .i64 i, .bool (inn xs s)])) ∧ Keeps no w w' := by
  subst hn
  rcases hs.row with e | ⟨b, off, rfl, hc⟩
  · subst e
    have hcon := Any2.slices_BinarySearch_string_empty Try.laysSearch a c s w
    change Calls Try.prog 99 _ _ _ at hcon
    refine hcon.mono ?_
    rintro e w' ⟨rfl, rfl⟩
    exact ⟨⟨0, rfl⟩, Keeps.refl _ _⟩
  · have hcon := Any2.slices_BinarySearch_string Try.laysSearch b off xs.length c (fun t => if t < xs.length then xs.getD t e0 else s) s w (by unfold Small at hl; omega) (fun j hj => by
      obtain ⟨b', off', e, h⟩ := hs.at hj
      cases e
      rw [if_pos hj]
      exact h)
    rw [search_in xs s hi] at hcon
    change Calls Try.prog 99 _ _ _ at hcon
    refine hcon.mono ?_
    rintro e w' ⟨rfl, q, rfl⟩
    exact ⟨⟨_, rfl⟩, (Keeps.refl _ _).drewN _⟩

end Go.Proofs.Ytileipnoiocdlaa
/- The program's small calls: rising, isWrite, among, mayBe, slices.Equal. -/
namespace Go.Proofs.Ytileipnoiocdlaa
open Go.RowKit Go.Sort Orl
set_option linter.unusedVariables false
set_option linter.unusedSimpArgs false

set_option maxRecDepth 10000 in
theorem pRising_any (w : World) (a : Option Addr) (n c : Nat) (xs : List Tx) (hn : n = xs.length) (hl : xs.length ≤ 8796093022000) (hs : Sl TE w a c xs) :
    Calls Try.prog 89 #[.slice a n c] w fun e w' => e = .returned (.bool (rising lts xs)) ∧ Keeps no w w' := by
  have HA : Hid (n = xs.length) := hn
  have hA : (n : Int) ≤ 8796093022000 := by omega
  clear hn hl
  go_enter Try.func89, Try.ntmps89
  go_wp2_with fail
  go_loopw [3] (fun i wr => ∃ k m : Nat, k ≤ n ∧ i = .int .i64 ((k : Int) + 1) ∧ wr = w.drewN m ∧ Hid (rising lts (xs.take (k + 1)) = true)) (fun i _ => n + 1 - (intOf i).toNat)
  case atStart =>
    refine ⟨0, 0, by omega, rfl, rfl, ?_⟩
    show rising lts (xs.take 1) = true
    match xs with
    | [] => rfl
    | [_] => rfl
    | _ :: _ :: _ => rfl
  case round =>
    obtain ⟨k, m, hk, rfl, rfl, HT⟩ := hrel
    by_cases h2 : k + 1 < n
    · have hka : k + 1 < xs.length := by have := HA.out; omega
      have h2' : (k : Int) + 1 < n := by omega
      obtain ⟨b1, off1, hoa, d1⟩ := hs.at (j := k) (by omega)
      obtain ⟨b2, off2, hob, d2⟩ := hs.at hka
      have hbo : b2 = b1 ∧ off2 = off1 := by rw [hoa] at hob; cases hob; exact ⟨rfl, rfl⟩
      obtain ⟨rfl, rfl⟩ := hbo
      subst hoa
      clear hob
      have HX := rising_take_succ xs k hka
      have HX' : Hid (rising lts (xs.take (k + 2)) = (rising lts (xs.take (k + 1)) && lts (xs.getD k e0) (xs.getD (k + 1) e0)) ∧ (rising lts (xs.take (k + 2)) = false → rising lts xs = false)) := ⟨HX, rising_fail_take xs (k + 1) hka⟩
      clear HX hka
      generalize xs.getD k e0 = x at d1 HX'
      generalize xs.getD (k + 1) e0 = y at d2 HX'
      by_cases hxy : lts x y = true
      · have hxy' : Op.bytesLess x.toList y.toList = true := hxy
        have HR : Hid (rising lts (xs.take (k + 2)) = true) := by show _ = _; rw [HX'.out.1, HT.out, hxy]; rfl
        clear hxy HX'
        go_wp2
        go_quiet (fail)
        go_wp2
        go_roundw
        case rel => exact ⟨k + 1, _, by omega, by go_num, rfl, HR⟩
        case measure => simp [intOf]; omega
      · have hxy' : Op.bytesLess x.toList y.toList = false := by simpa [lts] using hxy
        have HR : Hid (rising lts xs = false) := HX'.out.2 (by rw [HX'.out.1]; simp [hxy])
        clear hxy HX'
        go_wp2
        go_quiet (fail)
        go_wp2
        go_ret
        exact ⟨by rw [HR.out]; rfl, ((Keeps.refl _ _).drewN _).drewN _⟩
    · have h2' : ¬ (k : Int) + 1 < n := by omega
      go_wp2
      go_ret
      refine ⟨?_, (Keeps.refl _ _).drewN _⟩
      have := HT.out
      rw [List.take_of_length_le (by have := HA.out; omega)] at this
      rw [this]; rfl
theorem isSeq_any (s : Nat) (w : World) (hs : s ≤ 281474976710655) : Calls Try.prog 103 #[.int .u64 (s : Nat)] w fun e w' => e = .returned (.bool (decide (1 ≤ s))) ∧ w' = w := by
  by_cases h : 1 ≤ s
  · have h1 : (1 : Int) ≤ s := by omega
    have h2 : (s : Int) ≤ 281474976710655 := by omega
    rw [decide_eq_true h]
    go_enter Try.func103, Try.ntmps103
    go_wp2
    go_ret
    exact ⟨rfl, rfl⟩
  · obtain rfl : s = 0 := by omega
    go_enter Try.func103, Try.ntmps103
    go_wp2
    go_ret
    exact ⟨rfl, rfl⟩
theorem isWrite_any (i : Nat) (hi : i < 18446744073709551616) (w : World) : Calls Try.prog 88 #[.int .u64 (i : Nat)] w fun e w' => e = .returned (.bool (decide (65536 ≤ i))) ∧ w' = w := by
  have hs : ∀ W : World, Calls Try.prog 98 #[.int .u64 (i : Nat)] W fun e w' => (∃ a b, e = .returned (.tuple #[.int .u64 a, .int .i64 b, .int .i64 (if 65536 ≤ i then 0 else 1)])) ∧ w' = W := by
    intro W
    have hq := fun V => isSeq_any (i / 65536) V (by omega)
    have hq' : ∀ V, Calls Try.prog 103 #[.int .u64 ((i : Int) / 65536)] V fun e w' => e = .returned (.bool (decide (1 ≤ i / 65536))) ∧ w' = V := by
      intro V
      have := hq V
      rwa [show (((i / 65536 : Nat) : Int)) = (i : Int) / 65536 by omega] at this
    have hI : (i : Int) < 18446744073709551616 := by omega
    by_cases h : 65536 ≤ i
    · rw [decide_eq_true (show 1 ≤ i / 65536 by omega)] at hq'
      rw [if_pos h]
      clear hq h
      go_enter Try.func98, Try.ntmps98
      go_wp2_with fail
      refine (hq' _).mono ?_
      rintro e w1 ⟨rfl, hw1⟩
      subst w1
      go_wp2
      go_ret3
      exact ⟨⟨_, _, rfl⟩, rfl⟩
    · rw [decide_eq_false (show ¬ 1 ≤ i / 65536 by omega)] at hq'
      rw [if_neg h]
      clear hq h
      go_enter Try.func98, Try.ntmps98
      go_wp2_with fail
      refine (hq' _).mono ?_
      rintro e w1 ⟨rfl, hw1⟩
      subst w1
      go_wp2
      go_ret3
      exact ⟨⟨_, _, rfl⟩, rfl⟩
  by_cases h : 65536 ≤ i
  · rw [if_pos h] at hs
    rw [decide_eq_true h]
    clear h
    go_enter Try.func88, Try.ntmps88
    go_wp2_with fail
    refine (hs _).mono ?_
    rintro e w1 ⟨⟨a, b, rfl⟩, hw1⟩
    subst w1
    go_wp2
    go_ret
    exact ⟨rfl, rfl⟩
  · rw [if_neg h] at hs
    rw [decide_eq_false h]
    clear h
    go_enter Try.func88, Try.ntmps88
    go_wp2_with fail
    refine (hs _).mono ?_
    rintro e w1 ⟨⟨a, b, rfl⟩, hw1⟩
    subst w1
    go_wp2
    go_ret
    exact ⟨rfl, rfl⟩
theorem among_any (w : World) (a : Option Addr) (n c : Nat) (xs : List Tx) (s : Tx) (hn : n = xs.length) (hl : Small xs) (hs : Sl TE w a c xs) (hi : rising lts xs = true) :
    Calls Try.prog 90 #[.string s, .slice a n c] w fun e w' => e = .returned (.bool (inn xs s)) ∧ Keeps no w w' := by
  have h := search_any w a n c xs s hn hl hs ((rising_iff swoT xs).1 hi)
  have HS : Hid (Calls Try.prog 99 #[.slice a n c, .string s] w fun e w' => (∃ i : Int, e = .returned (.tuple #[.int .i64 i, .bool (inn xs s)])) ∧ Keeps no w w') := h
  clear h hn hl hs hi
  generalize inn xs s = B at HS ⊢
  go_enter Try.func90, Try.ntmps90
  go_wp2_with fail
  refine Calls.mono HS.out ?_
  rintro e w1 ⟨⟨i, rfl⟩, hk⟩
  have HK : Hid (Keeps no w w1) := hk
  clear hk HS
  go_wp2_with fail
  go_ret
  exact ⟨rfl, HK.out⟩
set_option maxRecDepth 10000 in
theorem equal_any (w : World) (oa : Option Addr) (na ca : Nat) (ob : Option Addr) (nb cb : Nat) (sa sb : List Tx) (hna : na = sa.length) (hnb : nb = sb.length) (hla : sa.length ≤ 8796093022000) (hlb : sb.length ≤ 8796093022000) (ha : Sl TE w oa ca sa) (hb : Sl TE w ob cb sb) :
    Calls Try.prog 62 #[.slice oa na ca, .slice ob nb cb] w fun e w' => (∃ B : Bool, e = .returned (.bool B) ∧ Hid (B = true ↔ sa = sb)) ∧ Keeps no w w' := by
  have HA : Hid (na = sa.length) := hna
  have HB : Hid (nb = sb.length) := hnb
  have hA : (na : Int) ≤ 8796093022000 := by omega
  have hB : (nb : Int) ≤ 8796093022000 := by omega
  clear hna hnb hla hlb
  by_cases hne : na = nb
  · subst hne
    go_enter Try.func62, Try.ntmps62
    go_wp2_with fail
    go_loopw [13] (fun i wr => ∃ k m : Nat, k ≤ na ∧ i = .int .i64 k ∧ wr = w.drewN m ∧ Hid (sa.take k = sb.take k)) (fun i _ => na - (intOf i).toNat)
    case atStart => exact ⟨0, 0, by omega, rfl, rfl, show sa.take 0 = sb.take 0 by simp⟩
    case round =>
      obtain ⟨k, m, hk, rfl, rfl, HT⟩ := hrel
      by_cases h2 : k < na
      · have hka : k < sa.length := by have := HA.out; omega
        have hkb : k < sb.length := by have := HB.out; omega
        obtain ⟨b1, off1, rfl, d1⟩ := ha.at hka
        obtain ⟨b2, off2, rfl, d2⟩ := hb.at hkb
        obtain ⟨x, hx⟩ : ∃ x, x = sa.getD k e0 := ⟨_, rfl⟩
        obtain ⟨y, hy⟩ : ∃ y, y = sb.getD k e0 := ⟨_, rfl⟩
        rw [← hx] at d1
        rw [← hy] at d2
        have HX : Hid (x = sa.getD k e0) := hx
        have HY : Hid (y = sb.getD k e0) := hy
        clear hx hy hka hkb
        by_cases hxy : x = y
        · have hxy' : (x.toList == y.toList) = true := by rw [tx_eq]; simpa using hxy
          clear hxy
          go_wp2
          go_quiet (fail)
          go_wp2
          go_roundw
          case rel =>
            refine ⟨k + 1, _, by omega, by go_num, rfl, ?_⟩
            rw [tx_eq, decide_eq_true_eq] at hxy'
            have := HT.out
            show sa.take (k + 1) = sb.take (k + 1)
            rw [take_succ_getD sa k e0 (by have := HA.out; omega), take_succ_getD sb k e0 (by have := HB.out; omega), this, ← HX.out, ← HY.out, hxy']
          case measure => simp [intOf]; omega
        · have hxy' : (x.toList == y.toList) = false := by rw [tx_eq]; simpa using hxy
          go_wp2
          go_quiet (fail)
          go_wp2
          go_ret
          refine ⟨⟨false, rfl, ⟨fun h => (by cases h), fun e => ?_⟩⟩, ((Keeps.refl _ _).drewN _).drewN _⟩
          exact absurd (by rw [HX.out, HY.out, e]) hxy
      · go_wp2
        go_ret
        refine ⟨⟨true, rfl, ⟨fun _ => ?_, fun _ => rfl⟩⟩, (Keeps.refl _ _).drewN _⟩
        have := HT.out
        rwa [List.take_of_length_le (by have := HA.out; omega), List.take_of_length_le (by have := HB.out; omega)] at this
  · have hne' : ¬ ((na : Nat) : Int) = (nb : Nat) := by omega
    go_enter Try.func62, Try.ntmps62
    go_wp2
    go_ret
    refine ⟨⟨false, rfl, ⟨fun h => (by cases h), fun e => ?_⟩⟩, Keeps.refl _ _⟩
    exact absurd (by rw [HA.out, HB.out, e]) hne


end Go.Proofs.Ytileipnoiocdlaa
/- The program's mayBe. -/
namespace Go.Proofs.Ytileipnoiocdlaa
open Go.RowKit Go.Sort Orl
set_option linter.unusedVariables false
set_option linter.unusedSimpArgs false

set_option maxRecDepth 10000 in
theorem mayBe_any (w : World) (r : RV) (v : Ver) (hf : FitV v) (h : VerOf w r v) :
    Calls Try.prog 74 #[.agg #[.string r.key, .int .u64 (r.id : Nat), .string r.val, .slice r.o r.n r.c]] w fun e w' => e = .returned (.bool (oneB v)) ∧ Keeps no w w' := by
  obtain ⟨vk, vi, vv, vks⟩ := v
  obtain ⟨k, i, x, o, n, c⟩ := r
  obtain ⟨h1, h2, h3, hn, hs⟩ := h
  simp only at h1 h2 h3 hn hs ⊢
  subst h1 h2 h3
  obtain ⟨fi, fk, fv, fl, fs⟩ := hf
  simp only at fi fk fv fl fs
  have HN : Hid (n = vks.length) := hn
  have hk0 : Keeps no w (w.alloc (.cells #[.string k, .int .u64 (i : Nat), .string x, .slice o n c] 46)) := (Keeps.refl _ _).alloc _
  have HK0 : Hid (Keeps no w (w.alloc (.cells #[.string k, .int .u64 (i : Nat), .string x, .slice o n c] 46))) := hk0
  have hn' : (n : Int) ≤ 8796093022000 := by omega
  by_cases h0 : i = 0
  · subst h0
    have HO := oneB_zero ⟨k, 0, x, vks⟩ rfl
    simp only at HO
    rw [← hn] at HO
    rw [HO]
    clear HO hn hk0
    by_cases hx : x = e0
    · have hx' : (x.toList == (⟨#[]⟩ : ByteArray).toList) = true := by rw [tx_eq]; exact decide_eq_true hx
      have hx2 : (x.toList).isEmpty = true := by rw [hx, e0_toList]; rfl
      rw [decide_eq_true hx]
      clear hx
      by_cases hn0 : n = 0
      · rw [decide_eq_true hn0]
        subst hn0
        go_enter Try.func74, Try.ntmps74
        go_wp2
        go_ret
        exact ⟨rfl, (Keeps.refl _ _).alloc _⟩
      · have hn0' : ((n : Int) == 0) = false := by simp; omega
        have hn0'' : ¬ (n : Int) = 0 := by omega
        rw [decide_eq_false hn0]
        go_enter Try.func74, Try.ntmps74
        go_wp2
        go_ret
        exact ⟨rfl, (Keeps.refl _ _).alloc _⟩
    · have hx' : (x.toList == (⟨#[]⟩ : ByteArray).toList) = false := by rw [tx_eq]; exact decide_eq_false hx
      have hx2 : (x.toList).isEmpty = false := by rw [← Bool.not_eq_true]; intro h; exact hx ((toList_inj x e0).1 (by rw [e0_toList]; simpa using h))
      rw [decide_eq_false hx]
      clear hx
      go_enter Try.func74, Try.ntmps74
      go_wp2
      go_ret
      exact ⟨rfl, (Keeps.refl _ _).alloc _⟩
  · have HO := oneB_pos ⟨k, i, x, vks⟩ h0
    simp only at HO
    rw [← hn] at HO
    rw [HO]
    have h0' : ((i : Int) == 0) = false := by simp; omega
    have h0'' : ¬ (i : Int) = 0 := by omega
    have hID := fun W => isWrite_any i fi W
    have HRS : Hid (Calls Try.prog 89 #[.slice o n c] (w.alloc (.cells #[.string k, .int .u64 (i : Nat), .string x, .slice o n c] 46)) fun e w' => e = .returned (.bool (rising lts vks)) ∧ Keeps no _ w') := pRising_any _ o n c vks hn fl (hs.keepsN hk0)
    have HHS : Hid (rising lts vks = true → n ≤ 1024 → ∀ W, Keeps no w W → Calls Try.prog 90 #[.string k, .slice o n c] W fun e w' => e = .returned (.bool (inn vks k)) ∧ Keeps no W w') := fun hr hn3 W hW => among_any W o n c vks k hn (by unfold Small; omega) (hs.keepsN hW) hr
    clear HO hn hk0 hs fs
    generalize rising lts vks = B1 at HRS HHS ⊢
    generalize inn vks k = B2 at HHS ⊢
    generalize decide (65536 ≤ i) = B0 at hID ⊢
    cases B0 with
    | false =>
      go_enter Try.func74, Try.ntmps74
      go_wp2_with fail
      refine (hID _).mono ?_
      rintro e w2 ⟨rfl, hw2⟩
      subst w2
      go_wp2_with fail
      go_ret
      exact ⟨rfl, HK0.out⟩
    | true =>
      by_cases hn3 : n ≤ 1024
      · have hn3' : decide ((n : Int) ≤ 1024) = true := by simp; omega
        have hn3'' : (n : Int) ≤ 1024 := by omega
        rw [decide_eq_true hn3]
        cases B1 with
        | false =>
          go_enter Try.func74, Try.ntmps74
          go_wp2_with fail
          refine (hID _).mono ?_
          rintro e w2 ⟨rfl, hw2⟩
          subst w2
          go_wp2_with fail
          refine Calls.mono HRS.out ?_
          rintro e w2 ⟨rfl, hk2⟩
          have HK2 : Hid (Keeps no w w2) := HK0.out.trans hk2
          clear hk2 HK0
          go_wp2_with fail
          go_ret
          exact ⟨rfl, HK2.out⟩
        | true =>
          have HAM : Hid (∀ W, Keeps no w W → Calls Try.prog 90 #[.string k, .slice o n c] W fun e w' => e = .returned (.bool B2) ∧ Keeps no W w') := HHS.out rfl hn3
          clear HHS
          go_enter Try.func74, Try.ntmps74
          go_wp2_with fail
          refine (hID _).mono ?_
          rintro e w2 ⟨rfl, hw2⟩
          subst w2
          go_wp2_with fail
          refine Calls.mono HRS.out ?_
          rintro e w2 ⟨rfl, hk2⟩
          have hb2 := hk2.at (blk_new w (.cells #[.string k, .int .u64 (i : Nat), .string x, .slice o n c] 46)) id
          have g0 := cell_of_blk hb2 0
          have g3 := cell_of_blk hb2 3
          have HK2 : Hid (Keeps no w w2) := HK0.out.trans hk2
          clear hk2 HK0 hb2
          go_wp2_with fail
          refine Calls.mono (HAM.out _ HK2.out) ?_
          rintro e w3 ⟨rfl, hk3⟩
          have HK3 : Hid (Keeps no w w3) := HK2.out.trans hk3
          clear hk3 g0 g3 HK2 HAM
          go_wp2_with fail
          go_ret
          exact ⟨rfl, HK3.out⟩
      · have hn3' : decide ((n : Int) ≤ 1024) = false := by simp; omega
        have hn3'' : ¬ (n : Int) ≤ 1024 := by omega
        rw [decide_eq_false hn3]
        go_enter Try.func74, Try.ntmps74
        go_wp2_with fail
        refine (hID _).mono ?_
        rintro e w2 ⟨rfl, hw2⟩
        subst w2
        go_wp2_with fail
        go_ret
        exact ⟨rfl, HK0.out⟩
end Go.Proofs.Ytileipnoiocdlaa
/- The document's Formed. -/
namespace Go.Proofs.Ytileipnoiocdlaa
open Go.RowKit Go.Sort Orl
set_option linter.unusedVariables false
set_option linter.unusedSimpArgs false

theorem Vers.agg {w : World} {o : Option Addr} {c : Nat} {rs : List RV} {vs : List Ver} (h : Vers w o c rs vs) {j : Nat} (hj : j < vs.length) : ∃ (b off : Nat) (r : RV), o = some ⟨b, off, none⟩ ∧ w.cell? ⟨b, off + j * 4, none⟩ = some (.string r.key) ∧ w.cell? ⟨b, off + j * 4 + 1, none⟩ = some (.int .u64 (r.id : Nat)) ∧ w.cell? ⟨b, off + j * 4 + 2, none⟩ = some (.string r.val) ∧ w.cell? ⟨b, off + j * 4 + 3, none⟩ = some (.slice r.o r.n r.c) ∧ VerOf w r (vs.getD j v0) := by
  obtain ⟨b, off, e, c0, c1, c2, c3⟩ := h.sl.atV (j := j) (by rw [h.len]; exact hj)
  exact ⟨b, off, _, e, c0, c1, c2, c3, h.each j hj⟩
structure FormTo (l : List Ver) (i : Nat) : Prop where
  one : ∀ j, j < i → oneB (l.getD j v0) = true
  two : ∀ j k, j < i → k < j → badB (l.getD k v0) (l.getD j v0) = false
theorem FormTo.succ {l : List Ver} {i : Nat} (h : FormTo l i) (h1 : oneB (l.getD i v0) = true) (h2 : ∀ k, k < i → badB (l.getD k v0) (l.getD i v0) = false) : FormTo l (i + 1) where
  one j hj := by
    by_cases e : j = i
    · subst e; exact h1
    · exact h.one j (by omega)
  two j k hj hk := by
    by_cases e : j = i
    · subst e; exact h2 k hk
    · exact h.two j k (by omega) hk
end Go.Proofs.Ytileipnoiocdlaa
