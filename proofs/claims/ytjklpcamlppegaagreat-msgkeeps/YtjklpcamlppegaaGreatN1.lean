/- The program's May, of its parts. -/
import Derived.Test.YtjklpcamlppegaaGreatMk
namespace Go.Proofs.YtjklpcamlppegaaGreat
open Go.RowKit Go.Sort Orl Pk
set_option linter.unusedVariables false
set_option linter.unusedSimpArgs false

theorem isID_any (w : World) (i : Nat) : Calls Tryz.prog 45 #[.int .u64 (i : Nat)] w fun e w' => e = .returned (.bool (isId i)) ∧ w' = w := by
  by_cases h : 65536 ≤ i
  · have h' : (65536 : Int) ≤ (i : Int) := by omega
    have e : isId i = true := by unfold isId; exact decide_eq_true h
    rw [e]
    clear e h
    go_enter Tryz.func45, Tryz.ntmps45
    go_wp2
    go_ret
    exact ⟨by simp [h'], rfl⟩
  · have h' : ¬ (65536 : Int) ≤ (i : Int) := by omega
    have e : isId i = false := by unfold isId; exact decide_eq_false h
    rw [e]
    clear e h
    go_enter Tryz.func45, Tryz.ntmps45
    go_wp2
    go_ret
    exact ⟨by simp [h'], rfl⟩

/-- a list longer than any that may be -/
theorem valK_much {l : List Tx} (h : 1024 < l.length) : valK l = false := by
  unfold valK
  have : decide (1 ≤ l.length ∧ l.length ≤ 1024) = false := by rw [decide_eq_false_iff_not]; omega
  rw [this]; rfl
theorem sorted_much (w : World) (a : Option Addr) (n c : Nat) (h1 : 1024 < n) (h2 : n ≤ 140737488355328) :
    Calls Tryz.prog 86 #[.slice a n c] w fun e w' => e = .returned (.tuple #[.slice none 0 0, .int .i64 40]) ∧ w' = w := by
  have hz : ¬ ((n : Int) = 0) := by omega
  have hz2 : ((n : Int) == 0) = false := by simpa using hz
  go_enter Tryz.func86, Tryz.ntmps86
  go_wp2
  go_ret2
  exact ⟨rfl, rfl⟩
theorem valid_much (w : World) (a : Option Addr) (n c : Nat) (h1 : 1024 < n) (h2 : n ≤ 140737488355328) :
    Calls Tryz.prog 48 #[.slice a n c] w fun e w' => e = .returned (.bool false) ∧ w' = w := by
  go_enter Tryz.func48, Tryz.ntmps48
  go_wp2_with fail
  refine (sorted_much w a n c h1 h2).mono ?_
  rintro e w' ⟨rfl, hw⟩
  subst w'
  go_wp2
  go_ret
  exact ⟨rfl, rfl⟩
theorem valid_all (w : World) (a : Option Addr) (n c : Nat) (xs : List Tx) (hn : n = xs.length) (hl : xs.length ≤ 8796093022000) (hsz : ∀ x ∈ xs, x.size ≤ 140737488351232) (hs : Sl TE w a c xs) :
    Calls Tryz.prog 48 #[.slice a n c] w fun e w' => e = .returned (.bool (valK xs)) ∧ Keeps no w w' := by
  by_cases h : xs.length ≤ 1024
  · exact valid_any w a n c xs hn (by unfold Small; omega) (fun x hx => by have := hsz x hx; unfold maxLen; omega) hs
  · refine (valid_much w a n c (by omega) (by omega)).mono ?_
    rintro e w' ⟨rfl, rfl⟩
    exact ⟨by rw [valK_much (by omega)], Keeps.refl _ _⟩
theorem isWriteSet_any (w : World) (a : Option Addr) (n c : Nat) (xs : List Tx) (hn : n = xs.length) (hl : xs.length ≤ 8796093022000) (hsz : ∀ x ∈ xs, x.size ≤ 140737488351232) (hs : Sl TE w a c xs) :
    Calls Tryz.prog 46 #[.slice a n c] w fun e w' => e = .returned (.bool (wset xs)) ∧ Keeps no w w' := by
  have HN : Hid (n = xs.length) := hn
  clear hn
  go_enter Tryz.func46, Tryz.ntmps46
  go_wp2_with fail
  refine (valid_all w a n c xs HN.out hl hsz hs).mono ?_
  rintro e w1 ⟨rfl, hk⟩
  by_cases hv : valK xs = true
  · have hb := valK_size hv
    rw [hv]
    go_wp2_with fail
    refine (rising_any w1 a n c xs HN.out (by unfold Small; omega) (hs.keepsN hk)).mono ?_
    rintro e w2 ⟨rfl, hk2⟩
    go_wp2
    go_ret
    refine ⟨?_, hk.trans hk2⟩
    unfold wset; rw [hv]; rfl
  · have hv' : valK xs = false := by simpa using hv
    rw [hv']
    go_wp2
    go_ret
    refine ⟨?_, hk⟩
    unfold wset; rw [hv']; rfl

/-! ### pairs -/
theorem valP_much {l : List Pr} (h : 1024 < l.length) : valP l = false := by
  unfold valP
  rw [valK_much (by rw [kys_length]; exact h), Bool.and_false]
theorem validPairs_much (w : World) (a : Option Addr) (n c : Nat) (h1 : 1024 < n) (h2 : n ≤ 140737488355328) :
    Calls Tryz.prog 83 #[.slice a n c] w fun e w' => e = .returned (.bool false) ∧ w' = w := by
  go_enter Tryz.func83, Tryz.ntmps83
  go_wp2
  go_ret
  exact ⟨rfl, rfl⟩
theorem validPairs_all (w : World) (a : Option Addr) (n c : Nat) (xs : List Pr) (hn : n = xs.length) (hl : xs.length ≤ 4398046511000) (hf : ∀ p ∈ xs, p.1.size ≤ 140737488351232 ∧ p.2.size ≤ 140737488351232) (hs : Sl PE w a c xs) :
    Calls Tryz.prog 83 #[.slice a n c] w fun e w' => e = .returned (.bool (valP xs)) ∧ Keeps no w w' := by
  by_cases h : xs.length ≤ 1024
  · exact validPairs_any w a n c xs hn (by omega) (fun p hp => by have := hf p hp; unfold maxLen; omega) hs
  · refine (validPairs_much w a n c (by omega) (by omega)).mono ?_
    rintro e w' ⟨rfl, rfl⟩
    exact ⟨by rw [valP_much (by omega)], Keeps.refl _ _⟩
theorem minus_sub {a b : List Tx} (hb : rising lts b = true) : decide ((if rising lts a && rising lts b then mg lts true false false a b else []).length = 0 ∧ (rising lts a && rising lts b) = true) = (rising lts a && sub a b) := by
  by_cases ha : rising lts a = true
  · rw [ha, hb]
    simp only [Bool.and_self, if_true, Bool.true_and, and_true]
    rw [minus_eq ((rising_iff swoT a).1 ha) ((rising_iff swoT b).1 hb)]
    unfold someL sub
    rw [Bool.eq_iff_iff, decide_eq_true_eq, List.length_eq_zero_iff, List.filter_eq_nil_iff, List.all_eq_true]
    constructor
    · intro h x hx
      have := h x hx
      simpa using this
    · intro h x hx
      simp [h x hx]
  · have ha' : rising lts a = false := by simpa using ha
    rw [ha', Bool.false_and, Bool.false_and]
    simp

set_option maxRecDepth 10000 in
theorem mayPairs_any (w : World) (a : Option Addr) (n c : Nat) (xs : List Pr) (ak : Option Addr) (nk ck : Nat) (ks : List Tx) (hn : n = xs.length) (hl : xs.length ≤ 4398046511000) (hf : ∀ p ∈ xs, p.1.size ≤ 140737488351232 ∧ p.2.size ≤ 140737488351232) (hs : Sl PE w a c xs)
    (hnk : nk = ks.length) (hkw : wset ks = true) (hsk : Sl TE w ak ck ks) :
    Calls Tryz.prog 47 #[.slice a n c, .slice ak nk ck] w fun e w' => e = .returned (.bool (mayP xs ks)) ∧ Keeps no w w' := by
  have HN : Hid (n = xs.length) := hn
  have HNK : Hid (nk = ks.length) := hnk
  have hkr : valK ks = true ∧ rising lts ks = true := by unfold wset at hkw; simpa using hkw
  have hkb := valK_size hkr.1
  have HKB : Hid (ks.length ≤ 1024) := hkb.2
  have HKR : Hid (rising lts ks = true) := hkr.2
  clear hn hnk hkb hkr hkw
  go_enter Tryz.func47, Tryz.ntmps47
  go_wp2_with fail
  refine (validPairs_all w a n c xs HN.out hl hf hs).mono ?_
  rintro e w1 ⟨rfl, hk1⟩
  by_cases hv : valP xs = true
  · have hb := valP_size hv
    have HB : Hid (xs.length ≤ 1024) := hb.2
    clear hb
    rw [hv]
    have HV : Hid (valP xs = true) := hv
    clear hv
    go_wp2_with fail
    refine (names_any w1 a n c xs HN.out (by unfold Small; have := HB.out; omega) (hs.keepsN hk1)).mono ?_
    rintro e w2 ⟨v, rfl, o2, n2, c2, rfl, hn2, hown2, hnew2, hk2⟩
    go_wp2_with fail
    refine (minus_any w2 o2 n2 c2 ak nk ck (kys xs) ks hn2.out HNK.out (by rw [kys_length]; have := HB.out; omega) (by have := HKB.out; omega) hown2.sl (hsk.keepsN (hk1.trans hk2))).mono ?_
    rintro e w3 ⟨v3, rfl, o3, n3, c3, rfl, hn3, hown3, hnew3, hk3⟩
    have hm := minus_sub (a := kys xs) HKR.out
    have hkk := (hk1.trans hk2).trans hk3
    have HM : Hid (mayP xs ks = (rising lts (kys xs) && sub (kys xs) ks)) := by show _ = _; unfold mayP; rw [HV.out, Bool.true_and]
    rw [← hm] at HM
    clear hm
    by_cases hr : (rising lts (kys xs) && rising lts ks) = true
    · rw [hr] at hn3 HM ⊢
      simp only [if_true] at hn3 HM ⊢
      by_cases hz : n3 = 0
      · subst hz
        go_wp2
        go_ret
        refine ⟨?_, hkk⟩
        rw [HM.out, decide_eq_true (by exact ⟨hn3.out.symm, trivial⟩)]
        rfl
      · have hz2 : ((n3 : Int) == 0) = false := by simp; omega
        have hz3 : ¬ ((n3 : Int) = 0) := by omega
        go_wp2
        go_ret
        refine ⟨?_, hkk⟩
        rw [HM.out, decide_eq_false (by rintro ⟨h, _⟩; rw [hn3.out] at hz; exact hz h)]
        try simp [hz3]
    · have hr' : (rising lts (kys xs) && rising lts ks) = false := by simpa using hr
      rw [hr'] at HM ⊢
      go_wp2
      go_ret
      refine ⟨?_, hkk⟩
      rw [HM.out]
      simp
  · have hv' : valP xs = false := by simpa using hv
    rw [hv']
    go_wp2
    go_ret
    refine ⟨?_, hk1⟩
    unfold mayP; rw [hv', Bool.false_and]; rfl
end Go.Proofs.YtjklpcamlppegaaGreat
