/- The document's Rising, ID, one. -/
import Derived.Test.YtodblodbeobgeaaL2
namespace Go.Proofs.Ytodblodbeobgeaa
open Go.RowKit Go.Sort Orl
set_option linter.unusedVariables false
set_option linter.unusedSimpArgs false

theorem dID_any (i : Nat) (hi : i < 18446744073709551616) (w : World) : Calls Try.prog 43 #[.int .u64 (i : Nat)] w fun e w' => e = .returned (.bool (decide (65536 ≤ i))) ∧ w' = w := by
  have hi' : (i : Int) < 18446744073709551616 := by omega
  by_cases h : 65536 ≤ i
  · have h' : (65536 : Int) ≤ i := by omega
    rw [decide_eq_true h]
    go_enter Try.func43, Try.ntmps43
    go_wp2
    go_ret
    exact ⟨rfl, rfl⟩
  · have h' : ¬ (65536 : Int) ≤ i := by omega
    rw [decide_eq_false h]
    go_enter Try.func43, Try.ntmps43
    go_wp2
    go_ret
    exact ⟨rfl, rfl⟩

theorem rising_take_succ (xs : List Tx) (k : Nat) (hk : k + 1 < xs.length) : rising lts (xs.take (k + 2)) = (rising lts (xs.take (k + 1)) && lts (xs.getD k e0) (xs.getD (k + 1) e0)) := by
  have key : ∀ n, n < xs.length → (rising lts (xs.take (n + 1)) = true ↔ ∀ i, i + 1 ≤ n → lts (xs.getD i e0) (xs.getD (i + 1) e0) = true) := by
    intro n hn
    have hl : (xs.take (n + 1)).length = n + 1 := by rw [List.length_take]; omega
    have hg : ∀ i, i ≤ n → (xs.take (n + 1)).getD i e0 = xs.getD i e0 := by
      intro i hi
      simp only [List.getD_eq_getElem?_getD, List.getElem?_take]
      rw [if_pos (by omega)]
    constructor
    · intro h i hi
      have h2 := (rising_iff swoT _).1 h
      have := inc_getD h2 e0 (i := i) (j := i + 1) (by omega) (by omega)
      rwa [hg i (by omega), hg (i + 1) (by omega)] at this
    · intro h
      refine rising_of_all e0 _ fun i hi => ?_
      rw [hl] at hi
      rw [hg i (by omega), hg (i + 1) (by omega)]
      exact h i (by omega)
  rw [Bool.eq_iff_iff, Bool.and_eq_true, key (k + 1) hk, key k (by omega)]
  constructor
  · intro h; exact ⟨fun i hi => h i (by omega), h k (by omega)⟩
  · rintro ⟨h1, h2⟩ i hi
    by_cases e : i = k
    · subst e; exact h2
    · exact h1 i (by omega)
theorem rising_fail_take (xs : List Tx) (k : Nat) (hk : k < xs.length) (h : rising lts (xs.take (k + 1)) = false) : rising lts xs = false := by
  rw [← Bool.not_eq_true, rising_iff swoT] at h ⊢
  intro hx
  exact h (List.Pairwise.sublist (List.take_sublist _ _) hx)
set_option maxRecDepth 10000 in
theorem dRising_any (w : World) (a : Option Addr) (n c : Nat) (xs : List Tx) (hn : n = xs.length) (hl : xs.length ≤ 8796093022000) (hs : Sl TE w a c xs) :
    Calls Try.prog 44 #[.slice a n c] w fun e w' => e = .returned (.bool (rising lts xs)) ∧ Keeps no w w' := by
  have HA : Hid (n = xs.length) := hn
  have hA : (n : Int) ≤ 8796093022000 := by omega
  clear hn hl
  go_enter Try.func44, Try.ntmps44
  go_wp2_with fail
  go_loopw [3] (fun i wr => ∃ k m : Nat, k ≤ n ∧ i = .int .i64 ((k : Int) + 1) ∧ wr = w.drewN m ∧ Hid (rising lts (xs.take (k + 1)) = true)) (fun i _ => n + 1 - (intOf i).toNat)
  case atStart =>
    refine ⟨0, 0, by omega, rfl, rfl, ?_⟩
    show rising lts (xs.take 1) = true
    match xs with
    | [] => rfl
    | [_] => rfl
    | _ :: _ :: _ => rfl
  case round =>
    obtain ⟨k, m, hk, rfl, rfl, HT⟩ := hrel
    by_cases h2 : k + 1 < n
    · have hka : k + 1 < xs.length := by have := HA.out; omega
      have h2' : (k : Int) + 1 < n := by omega
      obtain ⟨b1, off1, hoa, d1⟩ := hs.at (j := k) (by omega)
      obtain ⟨b2, off2, hob, d2⟩ := hs.at hka
      have hbo : b2 = b1 ∧ off2 = off1 := by rw [hoa] at hob; cases hob; exact ⟨rfl, rfl⟩
      obtain ⟨rfl, rfl⟩ := hbo
      subst hoa
      clear hob
      have HX := rising_take_succ xs k hka
      have HX' : Hid (rising lts (xs.take (k + 2)) = (rising lts (xs.take (k + 1)) && lts (xs.getD k e0) (xs.getD (k + 1) e0)) ∧ (rising lts (xs.take (k + 2)) = false → rising lts xs = false)) := ⟨HX, rising_fail_take xs (k + 1) hka⟩
      clear HX hka
      generalize xs.getD k e0 = x at d1 HX'
      generalize xs.getD (k + 1) e0 = y at d2 HX'
      by_cases hxy : lts x y = true
      · have hxy' : Op.bytesLess x.toList y.toList = true := hxy
        have HR : Hid (rising lts (xs.take (k + 2)) = true) := by show _ = _; rw [HX'.out.1, HT.out, hxy]; rfl
        clear hxy HX'
        go_wp2
        go_quiet (fail)
        go_wp2
        go_roundw
        case rel => exact ⟨k + 1, _, by omega, by go_num, rfl, HR⟩
        case measure => simp [intOf]; omega
      · have hxy' : Op.bytesLess x.toList y.toList = false := by simpa [lts] using hxy
        have HR : Hid (rising lts xs = false) := HX'.out.2 (by rw [HX'.out.1]; simp [hxy])
        clear hxy HX'
        go_wp2
        go_quiet (fail)
        go_wp2
        go_ret
        exact ⟨by rw [HR.out]; rfl, ((Keeps.refl _ _).drewN _).drewN _⟩
    · have h2' : ¬ (k : Int) + 1 < n := by omega
      go_wp2
      go_ret
      refine ⟨?_, (Keeps.refl _ _).drewN _⟩
      have := HT.out
      rw [List.take_of_length_le (by have := HA.out; omega)] at this
      rw [this]; rfl
theorem oneB_zero (v : Ver) (h : v.id = 0) : oneB v = (decide (v.val = e0) && decide (v.keys.length = 0)) := by unfold oneB; rw [if_pos h]
theorem oneB_pos (v : Ver) (h : ¬ v.id = 0) : oneB v = (decide (65536 ≤ v.id) && (decide (v.keys.length ≤ 1024) && (rising lts v.keys && inn v.keys v.key))) := by unfold oneB; rw [if_neg h]
theorem e0_toList : e0.toList = [] := by rw [Lib.toList_data]; rfl
set_option maxRecDepth 10000 in
theorem dOne_any (w : World) (r : RV) (v : Ver) (hf : FitV v) (h : VerOf w r v) :
    Calls Try.prog 32 #[.agg #[.string r.key, .int .u64 (r.id : Nat), .string r.val, .slice r.o r.n r.c]] w fun e w' => e = .returned (.bool (oneB v)) ∧ Keeps no w w' := by
  obtain ⟨vk, vi, vv, vks⟩ := v
  obtain ⟨k, i, x, o, n, c⟩ := r
  obtain ⟨h1, h2, h3, hn, hs⟩ := h
  simp only at h1 h2 h3 hn hs ⊢
  subst h1 h2 h3
  obtain ⟨fi, fk, fv, fl, fs⟩ := hf
  simp only at fi fk fv fl fs
  have HN : Hid (n = vks.length) := hn
  have hk0 : Keeps no w (w.alloc (.cells #[.string k, .int .u64 (i : Nat), .string x, .slice o n c] 32)) := (Keeps.refl _ _).alloc _
  have HK0 : Hid (Keeps no w (w.alloc (.cells #[.string k, .int .u64 (i : Nat), .string x, .slice o n c] 32))) := hk0
  have hn' : (n : Int) ≤ 8796093022000 := by omega
  by_cases h0 : i = 0
  · subst h0
    have HO := oneB_zero ⟨k, 0, x, vks⟩ rfl
    simp only at HO
    rw [← hn] at HO
    rw [HO]
    clear HO hn hk0
    by_cases hx : x = e0
    · have hx' : (x.toList == (⟨#[]⟩ : ByteArray).toList) = true := by rw [tx_eq]; exact decide_eq_true hx
      have hx2 : (x.toList).isEmpty = true := by rw [hx, e0_toList]; rfl
      rw [decide_eq_true hx]
      clear hx
      by_cases hn0 : n = 0
      · rw [decide_eq_true hn0]
        subst hn0
        go_enter Try.func32, Try.ntmps32
        go_wp2
        go_ret
        exact ⟨rfl, (Keeps.refl _ _).alloc _⟩
      · have hn0' : ((n : Int) == 0) = false := by simp; omega
        have hn0'' : ¬ (n : Int) = 0 := by omega
        rw [decide_eq_false hn0]
        go_enter Try.func32, Try.ntmps32
        go_wp2
        go_ret
        exact ⟨rfl, (Keeps.refl _ _).alloc _⟩
    · have hx' : (x.toList == (⟨#[]⟩ : ByteArray).toList) = false := by rw [tx_eq]; exact decide_eq_false hx
      have hx2 : (x.toList).isEmpty = false := by rw [← Bool.not_eq_true]; intro h; exact hx ((toList_inj x e0).1 (by rw [e0_toList]; simpa using h))
      rw [decide_eq_false hx]
      clear hx
      go_enter Try.func32, Try.ntmps32
      go_wp2
      go_ret
      exact ⟨rfl, (Keeps.refl _ _).alloc _⟩
  · have HO := oneB_pos ⟨k, i, x, vks⟩ h0
    simp only at HO
    rw [← hn] at HO
    rw [HO]
    have h0' : ((i : Int) == 0) = false := by simp; omega
    have h0'' : ¬ (i : Int) = 0 := by omega
    have hID := fun W => dID_any i fi W
    have HRS : Hid (Calls Try.prog 44 #[.slice o n c] (w.alloc (.cells #[.string k, .int .u64 (i : Nat), .string x, .slice o n c] 32)) fun e w' => e = .returned (.bool (rising lts vks)) ∧ Keeps no _ w') := dRising_any _ o n c vks hn fl (hs.keepsN hk0)
    have HHS : Hid (∀ W, Keeps no w W → Calls Try.prog 31 #[.slice o n c, .string k] W fun e w' => e = .returned (.bool (inn vks k)) ∧ w' = W) := fun W hW => dHas_any W o n c vks k hn fl (hs.keepsN hW)
    clear HO hn hk0 hs fs
    generalize rising lts vks = B1 at HRS ⊢
    generalize inn vks k = B2 at HHS ⊢
    generalize decide (65536 ≤ i) = B0 at hID ⊢
    cases B0 with
    | false =>
      go_enter Try.func32, Try.ntmps32
      go_wp2_with fail
      refine (hID _).mono ?_
      rintro e w2 ⟨rfl, hw2⟩
      subst w2
      go_wp2_with fail
      go_ret
      exact ⟨rfl, HK0.out⟩
    | true =>
      by_cases hn3 : n ≤ 1024
      · have hn3' : decide ((n : Int) ≤ 1024) = true := by simp; omega
        have hn3'' : (n : Int) ≤ 1024 := by omega
        rw [decide_eq_true hn3]
        cases B1 with
        | false =>
          go_enter Try.func32, Try.ntmps32
          go_wp2_with fail
          refine (hID _).mono ?_
          rintro e w2 ⟨rfl, hw2⟩
          subst w2
          go_wp2_with fail
          refine Calls.mono HRS.out ?_
          rintro e w2 ⟨rfl, hk2⟩
          have HK2 : Hid (Keeps no w w2) := HK0.out.trans hk2
          clear hk2 HK0
          go_wp2_with fail
          go_ret
          exact ⟨rfl, HK2.out⟩
        | true =>
          go_enter Try.func32, Try.ntmps32
          go_wp2_with fail
          refine (hID _).mono ?_
          rintro e w2 ⟨rfl, hw2⟩
          subst w2
          go_wp2_with fail
          refine Calls.mono HRS.out ?_
          rintro e w2 ⟨rfl, hk2⟩
          have hb2 := hk2.at (blk_new w (.cells #[.string k, .int .u64 (i : Nat), .string x, .slice o n c] 32)) id
          have g0 := cell_of_blk hb2 0
          have g3 := cell_of_blk hb2 3
          have HK2 : Hid (Keeps no w w2) := HK0.out.trans hk2
          clear hk2 HK0 hb2
          go_wp2_with fail
          refine (HHS.out _ HK2.out).mono ?_
          rintro e w3 ⟨rfl, hw3⟩
          subst w3
          go_wp2_with fail
          go_ret
          exact ⟨rfl, HK2.out⟩
      · have hn3' : decide ((n : Int) ≤ 1024) = false := by simp; omega
        have hn3'' : ¬ (n : Int) ≤ 1024 := by omega
        rw [decide_eq_false hn3]
        go_enter Try.func32, Try.ntmps32
        go_wp2_with fail
        refine (hID _).mono ?_
        rintro e w2 ⟨rfl, hw2⟩
        subst w2
        go_wp2_with fail
        go_ret
        exact ⟨rfl, HK0.out⟩
end Go.Proofs.Ytodblodbeobgeaa
