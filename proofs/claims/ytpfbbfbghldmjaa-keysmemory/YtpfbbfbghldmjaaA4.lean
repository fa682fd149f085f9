import Derived.Test.YtpfbbfbghldmjaaA3
namespace Go.Proofs.Ytpfbbfbghldmjaa
open Go.RowKit Go.Sort Orl
set_option linter.unusedVariables false
set_option linter.unusedSimpArgs false

def isT (l : List Tx) : List Tx := isort lts e0 l
theorem isT_length (l : List Tx) : (isT l).length = l.length := isort_length e0 l
theorem isT_take (l : List Tx) (k : Nat) (h : k < l.length) : isT (l.take (k + 1)) = put lts e0 (isT (l.take k)) (l.getD k e0) := by
  rw [take_succ_getD l k e0 h]; exact isort_snoc e0 _ _

set_option maxRecDepth 10000 in
theorem order_any (w : World) (a : Option Addr) (n c : Nat) (xs : List Tx) (hn : n = xs.length) (hl : xs.length ≤ 40000) (hs : Sl TE w a c xs) :
    Calls Try.prog 43 #[.slice a n c] w fun e w' => ∃ v, e = .returned v ∧ Gives TE w (isT xs) v w' := by
  have HA : Hid (n = xs.length) := hn
  have hA : (n : Int) ≤ 40000 := by omega
  have HL : Hid (xs.length ≤ 40000) := hl
  clear hn hl
  go_enter Try.func43, Try.ntmps43
  go_wp2_with fail
  go_loopw [3, 4] (fun s3 i wr => ∃ (k : Nat) (v : Value), k ≤ n ∧ i = .int .i64 k ∧ s3 = v ∧ Hid (Gives TE w (isT (xs.take k)) v wr)) (fun _ i _ => n - (intOf i).toNat)
  case atStart => exact ⟨0, _, by omega, rfl, rfl, ⟨none, 0, 0, rfl, (show 0 = _ by simp [isT, isort]), own_nil _, new_none _, Keeps.refl _ _⟩⟩
  case round =>
    obtain ⟨k, v, hk, rfl, rfl, HG⟩ := hrel
    obtain ⟨o, m, d, rfl, hm, ho, hnw, hkp⟩ := HG.out
    by_cases h2 : k < n
    · have hka : k < xs.length := by have := HA.out; omega
      have hs' := hs.keepsN hkp
      obtain ⟨b1, off1, rfl, d1⟩ := hs'.at hka
      obtain ⟨x, hx⟩ : ∃ x, x = xs.getD k e0 := ⟨_, rfl⟩
      rw [← hx] at d1
      have HX : Hid (x = xs.getD k e0) := hx
      clear hx hka
      go_wp2_with fail
      refine (put_any wr o m d (isT (xs.take k)) x hm.out (by rw [isT_length, List.length_take]; have := HL.out; omega) ho.sl).mono ?_
      rintro e w' ⟨v, rfl, o', m', d', rfl, hm', ho', hnw', hkp'⟩
      go_wp2_with fail
      go_roundw
      case rel =>
        refine ⟨k + 1, _, by omega, by go_num, rfl, ?_⟩
        show Gives TE w (isT (xs.take (k + 1))) _ w'
        rw [isT_take xs k (by have := HA.out; omega), ← HX.out]
        exact ⟨o', m', d', rfl, hm', ho', hnw'.of_le hkp.size, hkp.trans hkp'⟩
      case measure => simp [intOf] <;> omega
    · go_wp2_with fail
      go_ret
      refine ⟨_, rfl, o, m, d, rfl, ?_, ?_, hnw, hkp⟩
      · have := hm.out
        rwa [List.take_of_length_le (by have := HA.out; omega)] at this
      · rwa [List.take_of_length_le (by have := HA.out; omega)] at ho

/-- may these be the keys of a request? -/
def valK (l : List Tx) : Bool := decide (1 ≤ l.length ∧ l.length ≤ 1024) && (l.all fun k => decide (k.size ≤ 65535)) && rising lts (isT l)
theorem valK_size {l : List Tx} (h : valK l = true) : 1 ≤ l.length ∧ l.length ≤ 1024 := by
  unfold valK at h; simp at h; exact h.1.1
theorem valK_long {l : List Tx} {k : Nat} (hk : k < l.length) (h : 65535 < (l.getD k e0).size) : valK l = false := by
  have : (l.all fun k => decide (k.size ≤ 65535)) = false := by
    rw [List.all_eq_false]
    exact ⟨_, getD_mem_lt e0 hk, by simp at h ⊢; exact h⟩
  unfold valK; rw [this]; simp
theorem valK_of {l : List Tx} (h1 : 1 ≤ l.length) (h2 : l.length ≤ 1024) (h3 : ∀ j, j < l.length → (l.getD j e0).size ≤ 65535) : valK l = rising lts (isT l) := by
  have : (l.all fun k => decide (k.size ≤ 65535)) = true := by
    rw [List.all_eq_true]
    intro x hx
    obtain ⟨j, hj, rfl⟩ := List.getElem_of_mem hx
    have := h3 j hj
    simp [hj] at this
    simpa using this
  unfold valK; rw [this]; simp [h1, h2]

set_option maxRecDepth 10000 in
theorem refValid_any (w : World) (a : Option Addr) (n c : Nat) (xs : List Tx) (hn : n = xs.length) (hl : xs.length ≤ 40000) (hsz : ∀ x ∈ xs, x.size ≤ maxLen) (hs : Sl TE w a c xs) :
    Calls Try.prog 29 #[.slice a n c] w fun e w' => e = .returned (.bool (valK xs)) ∧ Keeps no w w' := by
  have HA : Hid (n = xs.length) := hn
  have hA : (n : Int) ≤ 40000 := by omega
  have HL : Hid (xs.length ≤ 40000) := hl
  have HZ : Hid (∀ x ∈ xs, x.size ≤ maxLen) := hsz
  obtain ⟨R, hR⟩ : ∃ R, valK xs = R := ⟨_, rfl⟩
  have HR : Hid (valK xs = R) := hR
  rw [hR]
  by_cases h1 : n < 1
  · have hf : R = false := by
      rw [← hR]; cases e : valK xs with
      | false => rfl
      | true => have := valK_size e; omega
    clear hR hn hl hsz
    subst hf
    have h1' : (n : Int) < 1 := by omega
    go_enter Try.func29, Try.ntmps29
    go_wp2_with fail
    go_ret
    exact ⟨rfl, Keeps.refl _ _⟩
  by_cases h2 : 1024 < n
  · have hf : R = false := by
      rw [← hR]; cases e : valK xs with
      | false => rfl
      | true => have := valK_size e; omega
    clear hR hn hl hsz
    subst hf
    have h1' : ¬ (n : Int) < 1 := by omega
    have h2' : (1024 : Int) < n := by omega
    clear h1 h2
    go_enter Try.func29, Try.ntmps29
    go_wp2_with fail
    go_ret
    exact ⟨rfl, Keeps.refl _ _⟩
  have h1' : ¬ (n : Int) < 1 := by omega
  have h2' : ¬ (1024 : Int) < n := by omega
  have H12 : Hid (1 ≤ n ∧ n ≤ 1024) := ⟨by omega, by omega⟩
  clear hR hn hl hsz h1 h2
  go_enter Try.func29, Try.ntmps29
  go_wp2_with fail
  go_loop [3] (fun i => ∃ k : Nat, k ≤ n ∧ i = .int .i64 k ∧ Hid (∀ j, j < k → (xs.getD j e0).size ≤ 65535)) (fun i => n - (intOf i).toNat)
  case atStart => exact ⟨0, by omega, rfl, fun j hj => absurd hj (Nat.not_lt_zero _)⟩
  case round =>
    obtain ⟨k, hk, rfl, HT⟩ := hrel
    by_cases h2 : k < n
    · have hka : k < xs.length := by have := HA.out; omega
      obtain ⟨b1, off1, rfl, d1⟩ := hs.at hka
      obtain ⟨x, hx⟩ : ∃ x, x = xs.getD k e0 := ⟨_, rfl⟩
      rw [← hx] at d1
      have hxz : x.size ≤ 9223372036854775807 := by
        have := HZ.out x (by rw [hx]; exact getD_mem_lt _ hka)
        unfold maxLen at this; omega
      have HX : Hid (x = xs.getD k e0) := hx
      clear hx hka
      by_cases hlong : (65535 : Int) < x.size
      · go_wp2_with fail
        go_ret
        refine ⟨?_, Keeps.refl _ _⟩
        have := valK_long (l := xs) (k := k) (by have := HA.out; omega) (by rw [← HX.out]; omega)
        rw [← HR.out, this]; rfl
      · go_wp2_with fail
        go_round
        case rel =>
          refine ⟨k + 1, by omega, by go_num, fun j hj => ?_⟩
          by_cases e : j = k
          · subst e; rw [← HX.out]; omega
          · exact HT.out j (by omega)
        case measure => simp [intOf] <;> omega
    · have hv : valK xs = rising lts (isT xs) := valK_of (by have := HA.out; have := H12.out; omega) (by have := HA.out; have := H12.out; omega) (fun j hj => HT.out j (by have := HA.out; omega))
      have HV : Hid (valK xs = rising lts (isT xs)) := hv
      clear hv
      go_wp2_with fail
      refine (order_any w a n c xs HA.out HL.out hs).mono ?_
      rintro e w' ⟨v, rfl, o', m', d', rfl, hm', ho', hnw', hkp'⟩
      go_wp2_with fail
      refine (refRising_any w' o' m' d' (isT xs) hm'.out (by unfold Small; rw [isT_length]; have := HL.out; omega) ho'.sl).mono ?_
      rintro e w2 ⟨rfl, hkp2⟩
      rw [← HV.out, HR.out]
      go_wp2_with fail
      go_ret
      exact ⟨rfl, hkp'.trans hkp2⟩

theorem refSorted_any (w : World) (a : Option Addr) (n c : Nat) (xs : List Tx) (hn : n = xs.length) (hl : xs.length ≤ 40000) (hsz : ∀ x ∈ xs, x.size ≤ maxLen) (hs : Sl TE w a c xs) :
    Calls Try.prog 28 #[.slice a n c] w fun e w' => ∃ v, e = .returned (.tuple #[v, .int .i64 (if valK xs then 0 else 40)]) ∧ Gives TE w (if valK xs then isT xs else []) v w' := by
  have hv := refValid_any w a n c xs hn hl hsz hs
  have HA : Hid (n = xs.length) := hn
  have HL : Hid (xs.length ≤ 40000) := hl
  clear hn hl hsz
  cases e : valK xs <;> rw [e] at hv
  · have E : Hid (valK xs = false) := e
    clear e
    go_enter Try.func28, Try.ntmps28
    go_wp2_with fail
    refine hv.mono ?_
    rintro e w' ⟨rfl, hk⟩
    go_wp2_with fail
    go_ret2
    exact ⟨_, rfl, none, 0, 0, rfl, (show 0 = _ by simp), own_nil _, new_none _, hk⟩
  · have E : Hid (valK xs = true) := e
    clear e
    go_enter Try.func28, Try.ntmps28
    go_wp2_with fail
    refine hv.mono ?_
    rintro e w' ⟨rfl, hk⟩
    go_wp2_with fail
    refine (order_any w' a n c xs HA.out HL.out (hs.keepsN hk)).mono ?_
    rintro e w2 ⟨v, rfl, o', m', d', rfl, hm', ho', hnw', hkp'⟩
    go_wp2_with fail
    go_ret2
    exact ⟨_, rfl, o', m', d', rfl, hm', ho', hnw'.of_le hk.size, hk.trans hkp'⟩

theorem refHas_any (w : World) (a : Option Addr) (n c : Nat) (xs : List Tx) (s : Tx) (hn : n = xs.length) (hl : Small xs) (hs : Sl TE w a c xs) :
    Calls Try.prog 31 #[.slice a n c, .string s] w fun e w' => e = .returned (.bool (rising lts xs && inn xs s)) ∧ Keeps no w w' := by
  have hv := refRising_any w a n c xs hn hl hs
  have HN : Hid (n = xs.length) := hn
  have HL : Hid (Small xs) := hl
  clear hn hl
  cases e : rising lts xs <;> rw [e] at hv
  · clear e
    obtain ⟨R, hR⟩ : ∃ R, inn xs s = R := ⟨_, rfl⟩
    rw [hR]
    have HR : Hid (inn xs s = R) := hR
    clear hR
    go_enter Try.func31, Try.ntmps31
    go_wp2_with fail
    refine hv.mono ?_
    rintro e w' ⟨rfl, hk⟩
    go_wp2_with fail
    go_ret
    exact ⟨by simp, hk⟩
  · clear e
    obtain ⟨R, hR⟩ : ∃ R, inn xs s = R := ⟨_, rfl⟩
    rw [hR]
    have HR : Hid (inn xs s = R) := hR
    clear hR
    go_enter Try.func31, Try.ntmps31
    go_wp2_with fail
    refine hv.mono ?_
    rintro e w' ⟨rfl, hk⟩
    have hi := in_any w' a n c xs s HN.out HL.out (hs.keepsN hk)
    rw [HR.out] at hi
    go_wp2_with fail
    refine hi.mono ?_
    rintro e w2 ⟨rfl, rfl⟩
    go_wp2_with fail
    go_ret
    exact ⟨by simp, hk⟩
end Go.Proofs.Ytpfbbfbghldmjaa
