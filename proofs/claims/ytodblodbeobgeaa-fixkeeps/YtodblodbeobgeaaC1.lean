/- The program's small calls: rising, isWrite, among, mayBe, slices.Equal. -/
import Derived.Test.YtodblodbeobgeaaD1
import Derived.Test.YtodblodbeobgeaaCs
namespace Go.Proofs.Ytodblodbeobgeaa
open Go.RowKit Go.Sort Orl
set_option linter.unusedVariables false
set_option linter.unusedSimpArgs false

set_option maxRecDepth 10000 in
theorem pRising_any (w : World) (a : Option Addr) (n c : Nat) (xs : List Tx) (hn : n = xs.length) (hl : xs.length ≤ 8796093022000) (hs : Sl TE w a c xs) :
    Calls Try.prog 40 #[.slice a n c] w fun e w' => e = .returned (.bool (rising lts xs)) ∧ Keeps no w w' := by
  have HA : Hid (n = xs.length) := hn
  have hA : (n : Int) ≤ 8796093022000 := by omega
  clear hn hl
  go_enter Try.func40, Try.ntmps40
  go_wp2_with fail
  go_loopw [3] (fun i wr => ∃ k m : Nat, k ≤ n ∧ i = .int .i64 ((k : Int) + 1) ∧ wr = w.drewN m ∧ Hid (rising lts (xs.take (k + 1)) = true)) (fun i _ => n + 1 - (intOf i).toNat)
  case atStart =>
    refine ⟨0, 0, by omega, rfl, rfl, ?_⟩
    show rising lts (xs.take 1) = true
    match xs with
    | [] => rfl
    | [_] => rfl
    | _ :: _ :: _ => rfl
  case round =>
    obtain ⟨k, m, hk, rfl, rfl, HT⟩ := hrel
    by_cases h2 : k + 1 < n
    · have hka : k + 1 < xs.length := by have := HA.out; omega
      have h2' : (k : Int) + 1 < n := by omega
      obtain ⟨b1, off1, hoa, d1⟩ := hs.at (j := k) (by omega)
      obtain ⟨b2, off2, hob, d2⟩ := hs.at hka
      have hbo : b2 = b1 ∧ off2 = off1 := by rw [hoa] at hob; cases hob; exact ⟨rfl, rfl⟩
      obtain ⟨rfl, rfl⟩ := hbo
      subst hoa
      clear hob
      have HX := rising_take_succ xs k hka
      have HX' : Hid (rising lts (xs.take (k + 2)) = (rising lts (xs.take (k + 1)) && lts (xs.getD k e0) (xs.getD (k + 1) e0)) ∧ (rising lts (xs.take (k + 2)) = false → rising lts xs = false)) := ⟨HX, rising_fail_take xs (k + 1) hka⟩
      clear HX hka
      generalize xs.getD k e0 = x at d1 HX'
      generalize xs.getD (k + 1) e0 = y at d2 HX'
      by_cases hxy : lts x y = true
      · have hxy' : Op.bytesLess x.toList y.toList = true := hxy
        have HR : Hid (rising lts (xs.take (k + 2)) = true) := by show _ = _; rw [HX'.out.1, HT.out, hxy]; rfl
        clear hxy HX'
        go_wp2
        go_quiet (fail)
        go_wp2
        go_roundw
        case rel => exact ⟨k + 1, _, by omega, by go_num, rfl, HR⟩
        case measure => simp [intOf]; omega
      · have hxy' : Op.bytesLess x.toList y.toList = false := by simpa [lts] using hxy
        have HR : Hid (rising lts xs = false) := HX'.out.2 (by rw [HX'.out.1]; simp [hxy])
        clear hxy HX'
        go_wp2
        go_quiet (fail)
        go_wp2
        go_ret
        exact ⟨by rw [HR.out]; rfl, ((Keeps.refl _ _).drewN _).drewN _⟩
    · have h2' : ¬ (k : Int) + 1 < n := by omega
      go_wp2
      go_ret
      refine ⟨?_, (Keeps.refl _ _).drewN _⟩
      have := HT.out
      rw [List.take_of_length_le (by have := HA.out; omega)] at this
      rw [this]; rfl
theorem isSeq_any (s : Nat) (w : World) (hs : s ≤ 281474976710655) : Calls Try.prog 47 #[.int .u64 (s : Nat)] w fun e w' => e = .returned (.bool (decide (1 ≤ s))) ∧ w' = w := by
  by_cases h : 1 ≤ s
  · have h1 : (1 : Int) ≤ s := by omega
    have h2 : (s : Int) ≤ 281474976710655 := by omega
    rw [decide_eq_true h]
    go_enter Try.func47, Try.ntmps47
    go_wp2
    go_ret
    exact ⟨rfl, rfl⟩
  · obtain rfl : s = 0 := by omega
    go_enter Try.func47, Try.ntmps47
    go_wp2
    go_ret
    exact ⟨rfl, rfl⟩
theorem isWrite_any (i : Nat) (hi : i < 18446744073709551616) (w : World) : Calls Try.prog 39 #[.int .u64 (i : Nat)] w fun e w' => e = .returned (.bool (decide (65536 ≤ i))) ∧ w' = w := by
  have hs : ∀ W : World, Calls Try.prog 45 #[.int .u64 (i : Nat)] W fun e w' => (∃ a b, e = .returned (.tuple #[.int .u64 a, .int .i64 b, .int .i64 (if 65536 ≤ i then 0 else 1)])) ∧ w' = W := by
    intro W
    have hq := fun V => isSeq_any (i / 65536) V (by omega)
    have hq' : ∀ V, Calls Try.prog 47 #[.int .u64 ((i : Int) / 65536)] V fun e w' => e = .returned (.bool (decide (1 ≤ i / 65536))) ∧ w' = V := by
      intro V
      have := hq V
      rwa [show (((i / 65536 : Nat) : Int)) = (i : Int) / 65536 by omega] at this
    have hI : (i : Int) < 18446744073709551616 := by omega
    by_cases h : 65536 ≤ i
    · rw [decide_eq_true (show 1 ≤ i / 65536 by omega)] at hq'
      rw [if_pos h]
      clear hq h
      go_enter Try.func45, Try.ntmps45
      go_wp2_with fail
      refine (hq' _).mono ?_
      rintro e w1 ⟨rfl, hw1⟩
      subst w1
      go_wp2
      go_ret3
      exact ⟨⟨_, _, rfl⟩, rfl⟩
    · rw [decide_eq_false (show ¬ 1 ≤ i / 65536 by omega)] at hq'
      rw [if_neg h]
      clear hq h
      go_enter Try.func45, Try.ntmps45
      go_wp2_with fail
      refine (hq' _).mono ?_
      rintro e w1 ⟨rfl, hw1⟩
      subst w1
      go_wp2
      go_ret3
      exact ⟨⟨_, _, rfl⟩, rfl⟩
  by_cases h : 65536 ≤ i
  · rw [if_pos h] at hs
    rw [decide_eq_true h]
    clear h
    go_enter Try.func39, Try.ntmps39
    go_wp2_with fail
    refine (hs _).mono ?_
    rintro e w1 ⟨⟨a, b, rfl⟩, hw1⟩
    subst w1
    go_wp2
    go_ret
    exact ⟨rfl, rfl⟩
  · rw [if_neg h] at hs
    rw [decide_eq_false h]
    clear h
    go_enter Try.func39, Try.ntmps39
    go_wp2_with fail
    refine (hs _).mono ?_
    rintro e w1 ⟨⟨a, b, rfl⟩, hw1⟩
    subst w1
    go_wp2
    go_ret
    exact ⟨rfl, rfl⟩
theorem among_any (w : World) (a : Option Addr) (n c : Nat) (xs : List Tx) (s : Tx) (hn : n = xs.length) (hl : Small xs) (hs : Sl TE w a c xs) (hi : rising lts xs = true) :
    Calls Try.prog 41 #[.string s, .slice a n c] w fun e w' => e = .returned (.bool (inn xs s)) ∧ Keeps no w w' := by
  have h := search_any w a n c xs s hn hl hs ((rising_iff swoT xs).1 hi)
  have HS : Hid (Calls Try.prog 46 #[.slice a n c, .string s] w fun e w' => (∃ i : Int, e = .returned (.tuple #[.int .i64 i, .bool (inn xs s)])) ∧ Keeps no w w') := h
  clear h hn hl hs hi
  generalize inn xs s = B at HS ⊢
  go_enter Try.func41, Try.ntmps41
  go_wp2_with fail
  refine Calls.mono HS.out ?_
  rintro e w1 ⟨⟨i, rfl⟩, hk⟩
  have HK : Hid (Keeps no w w1) := hk
  clear hk HS
  go_wp2_with fail
  go_ret
  exact ⟨rfl, HK.out⟩
set_option maxRecDepth 10000 in
theorem equal_any (w : World) (oa : Option Addr) (na ca : Nat) (ob : Option Addr) (nb cb : Nat) (sa sb : List Tx) (hna : na = sa.length) (hnb : nb = sb.length) (hla : sa.length ≤ 8796093022000) (hlb : sb.length ≤ 8796093022000) (ha : Sl TE w oa ca sa) (hb : Sl TE w ob cb sb) :
    Calls Try.prog 42 #[.slice oa na ca, .slice ob nb cb] w fun e w' => (∃ B : Bool, e = .returned (.bool B) ∧ Hid (B = true ↔ sa = sb)) ∧ Keeps no w w' := by
  have HA : Hid (na = sa.length) := hna
  have HB : Hid (nb = sb.length) := hnb
  have hA : (na : Int) ≤ 8796093022000 := by omega
  have hB : (nb : Int) ≤ 8796093022000 := by omega
  clear hna hnb hla hlb
  by_cases hne : na = nb
  · subst hne
    go_enter Try.func42, Try.ntmps42
    go_wp2_with fail
    go_loopw [13] (fun i wr => ∃ k m : Nat, k ≤ na ∧ i = .int .i64 k ∧ wr = w.drewN m ∧ Hid (sa.take k = sb.take k)) (fun i _ => na - (intOf i).toNat)
    case atStart => exact ⟨0, 0, by omega, rfl, rfl, show sa.take 0 = sb.take 0 by simp⟩
    case round =>
      obtain ⟨k, m, hk, rfl, rfl, HT⟩ := hrel
      by_cases h2 : k < na
      · have hka : k < sa.length := by have := HA.out; omega
        have hkb : k < sb.length := by have := HB.out; omega
        obtain ⟨b1, off1, rfl, d1⟩ := ha.at hka
        obtain ⟨b2, off2, rfl, d2⟩ := hb.at hkb
        obtain ⟨x, hx⟩ : ∃ x, x = sa.getD k e0 := ⟨_, rfl⟩
        obtain ⟨y, hy⟩ : ∃ y, y = sb.getD k e0 := ⟨_, rfl⟩
        rw [← hx] at d1
        rw [← hy] at d2
        have HX : Hid (x = sa.getD k e0) := hx
        have HY : Hid (y = sb.getD k e0) := hy
        clear hx hy hka hkb
        by_cases hxy : x = y
        · have hxy' : (x.toList == y.toList) = true := by rw [tx_eq]; simpa using hxy
          clear hxy
          go_wp2
          go_quiet (fail)
          go_wp2
          go_roundw
          case rel =>
            refine ⟨k + 1, _, by omega, by go_num, rfl, ?_⟩
            rw [tx_eq, decide_eq_true_eq] at hxy'
            have := HT.out
            show sa.take (k + 1) = sb.take (k + 1)
            rw [take_succ_getD sa k e0 (by have := HA.out; omega), take_succ_getD sb k e0 (by have := HB.out; omega), this, ← HX.out, ← HY.out, hxy']
          case measure => simp [intOf]; omega
        · have hxy' : (x.toList == y.toList) = false := by rw [tx_eq]; simpa using hxy
          go_wp2
          go_quiet (fail)
          go_wp2
          go_ret
          refine ⟨⟨false, rfl, ⟨fun h => (by cases h), fun e => ?_⟩⟩, ((Keeps.refl _ _).drewN _).drewN _⟩
          exact absurd (by rw [HX.out, HY.out, e]) hxy
      · go_wp2
        go_ret
        refine ⟨⟨true, rfl, ⟨fun _ => ?_, fun _ => rfl⟩⟩, (Keeps.refl _ _).drewN _⟩
        have := HT.out
        rwa [List.take_of_length_le (by have := HA.out; omega), List.take_of_length_le (by have := HB.out; omega)] at this
  · have hne' : ¬ ((na : Nat) : Int) = (nb : Nat) := by omega
    go_enter Try.func42, Try.ntmps42
    go_wp2
    go_ret
    refine ⟨⟨false, rfl, ⟨fun h => (by cases h), fun e => ?_⟩⟩, Keeps.refl _ _⟩
    exact absurd (by rw [HA.out, HB.out, e]) hne


end Go.Proofs.Ytodblodbeobgeaa
