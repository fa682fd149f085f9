/- The document's side: digits, plain, hex, word. -/
import Derived.Test.YtjkljljmjjnneaaGreatDoorW2
import Derived.Test.YtjkljljmjjnneaaGreatDoorBs
import Derived.Test.YtjkljljmjjnneaaGreatDoorI5
import Derived.Laws.Concat
namespace Go.Proofs.YtjkljljmjjnneaaGreatDoor
open Go.RowKit Go.Sort Orl
set_option linter.unusedVariables false
set_option linter.unusedSimpArgs false

/-- a text of bytes -/
abbrev tx (l : List UInt8) : ByteArray := ⟨l.toArray⟩
theorem add_tx (W : World) (a b : List UInt8) (h : a.length + b.length ≤ 9223372036854775807) : (Op.stringOp .add (tx a) (tx b)).run Tryz.prog W = .ok (.string (tx (a ++ b))) W := by
  rw [run_string_add_sum W _ _ (by show a.toArray.size + b.toArray.size ≤ _; rw [List.size_toArray, List.size_toArray]; exact h), ByteArray.mk_append_mk]
theorem conv_digit (w : World) (u : Nat) : (convert 69 9 (.slice (some ⟨w.heap.size, 0, none⟩) 1 1)).run Tryz.prog (w.alloc (.cells #[.int .u8 (48 + (u : Int) % 10)] 5)) = .ok (.string ⟨#[UInt8.ofNat (48 + u % 10)]⟩) (w.alloc (.cells #[.int .u8 (48 + (u : Int) % 10)] 5)) := by
  have hb : BsIn (w.alloc (.cells #[.int .u8 (48 + (u : Int) % 10)] 5)) w.heap.size [UInt8.ofNat (48 + u % 10)] := by
    refine ⟨_, 0, 0, blk_new w _, .inr rfl, by simp, fun j hj => ?_⟩
    have : j = 0 := by simpa using hj
    subst this
    show some _ = some _
    simp only [List.getD_cons_zero]
    rw [dig_nat (by omega)]
    congr 2
  exact hb.back 1 1 rfl
set_option maxRecDepth 10000 in
theorem digits_any : ∀ (u : Nat), u < 18446744073709551616 → ∀ w : World,
    Calls Tryz.prog 51 #[.int .u64 (u : Nat)] w fun e w' => e = .returned (.string (tx (numW u))) ∧ Keeps no w w' := by
  intro u
  induction u using Nat.strongRecOn with
  | _ u ih =>
    intro hu w
    have hc := conv_digit w u
    obtain ⟨d, hd⟩ : ∃ d, d = UInt8.ofNat (48 + u % 10) := ⟨_, rfl⟩
    rw [← hd] at hc
    have HD : Hid (d = UInt8.ofNat (48 + u % 10)) := hd
    clear hd
    by_cases h : u < 10
    · have e : Hid (numW u = [d]) := by show Lib.decDigits u = _; rw [HD.out, dec_one h, Nat.mod_eq_of_lt h]
      have h' : (u : Int) < 10 := by omega
      clear ih
      go_enter Tryz.func51, Tryz.ntmps51
      go_wp2_with fail
      go_ret
      rw [e.out]
      exact ⟨rfl, (Keeps.refl no w).alloc _⟩
    · have e : Hid (numW u = numW (u / 10) ++ [d]) := by show Lib.decDigits u = _; rw [HD.out, dec_step (by omega)]; rfl
      have h' : ¬ (u : Int) < 10 := by omega
      have HI : Hid (∀ W, Calls Tryz.prog 51 #[.int .u64 (((u / 10 : Nat)) : Int)] W fun e w' => e = .returned (.string (tx (numW (u / 10)))) ∧ Keeps no W w') := fun W => ih (u / 10) (by omega) (by omega) W
      have hadd : ∀ W : World, (Op.stringOp .add (⟨(numW (u / 10)).toArray⟩ : ByteArray) ⟨#[d]⟩).run Tryz.prog W = .ok (.string ⟨(numW u).toArray⟩) W := fun W => by
        have h1 := numW_len (n := u / 10) (by omega)
        have := add_tx W (numW (u / 10)) [d] (by simp only [List.length_singleton]; omega)
        rw [e.out]
        exact this
      have hq : Hid ((u : Int) / 10 = ((u / 10 : Nat) : Int)) := by show _ = _; omega
      have hu' : (u : Int) ≤ 18446744073709551615 := by omega
      unfold tx at HI ⊢
      generalize hx : numW (u / 10) = X at hadd HI e
      generalize hy : numW u = Y at hadd e ⊢
      clear ih h hu hx hy
      go_enter Tryz.func51, Tryz.ntmps51
      go_wp2_with fail
      rw [hq.out]
      refine (HI.out _).mono ?_
      rintro e w2 ⟨rfl, hk⟩
      go_wp2_with fail
      go_ret
      exact ⟨rfl, ((Keeps.refl no w).alloc _).trans hk⟩
theorem plain_any (w : World) (c : UInt8) : Calls Tryz.prog 71 #[.int .u8 (c.toNat : Nat)] w fun e w' => e = .returned (.bool (plainB c)) ∧ w' = w := by
  unfold plainB
  have hb := c.toNat_lt
  generalize c.toNat = n at hb ⊢
  by_cases h1 : 33 ≤ n
  · by_cases h2 : n ≤ 126
    · by_cases h3 : n = 35
      · subst h3
        go_enter Tryz.func71, Tryz.ntmps71
        go_wp2_with fail
        go_ret
        exact ⟨rfl, rfl⟩
      · by_cases h4 : n = 37
        · subst h4
          go_enter Tryz.func71, Tryz.ntmps71
          go_wp2_with fail
          go_ret
          exact ⟨rfl, rfl⟩
        · by_cases h5 : n = 61
          · subst h5
            go_enter Tryz.func71, Tryz.ntmps71
            go_wp2_with fail
            go_ret
            exact ⟨rfl, rfl⟩
          · have e : decide (33 ≤ n ∧ n ≤ 126 ∧ n ≠ 35 ∧ n ≠ 37 ∧ n ≠ 61) = true := decide_eq_true ⟨h1, h2, h3, h4, h5⟩
            rw [e]
            have i1 : (33 : Int) ≤ n := by omega
            have i2 : (n : Int) ≤ 126 := by omega
            have i3 : ((n : Int) != 35) = true := by rw [bne_iff_ne]; omega
            have i4 : ((n : Int) != 37) = true := by rw [bne_iff_ne]; omega
            have i5 : ((n : Int) != 61) = true := by rw [bne_iff_ne]; omega
            clear e
            go_enter Tryz.func71, Tryz.ntmps71
            go_wp2_with fail
            go_ret
            exact ⟨rfl, rfl⟩
    · have e : decide (33 ≤ n ∧ n ≤ 126 ∧ n ≠ 35 ∧ n ≠ 37 ∧ n ≠ 61) = false := decide_eq_false (fun h => h2 h.2.1)
      rw [e]
      have i1 : (33 : Int) ≤ n := by omega
      have i2 : ¬ (n : Int) ≤ 126 := by omega
      clear e
      go_enter Tryz.func71, Tryz.ntmps71
      go_wp2_with fail
      go_ret
      exact ⟨rfl, rfl⟩
  · have e : decide (33 ≤ n ∧ n ≤ 126 ∧ n ≠ 35 ∧ n ≠ 37 ∧ n ≠ 61) = false := decide_eq_false (fun h => h1 h.1)
    rw [e]
    have i1 : ¬ (33 : Int) ≤ n := by omega
    clear e
    go_enter Tryz.func71, Tryz.ntmps71
    go_wp2_with fail
    go_ret
    exact ⟨rfl, rfl⟩
theorem hexD_nat {n : Nat} (h : n < 16) : ((hexD n).toNat : Int) = if n < 10 then 48 + (n : Int) else 87 + (n : Int) := by
  unfold hexD
  split
  · rw [UInt8.toNat_ofNat']; omega
  · rw [UInt8.toNat_ofNat']; omega
theorem hex_any (w : World) (n : Nat) (hn : n < 16) : Calls Tryz.prog 72 #[.int .u8 (n : Nat)] w fun e w' => e = .returned (.int .u8 ((hexD n).toNat : Nat)) ∧ w' = w := by
  have hnI : (n : Int) < 16 := by omega
  have HX : Hid (((hexD n).toNat : Int) = if n < 10 then 48 + (n : Int) else 87 + (n : Int)) := hexD_nat hn
  by_cases h : n < 10
  · have h' : (n : Int) < 10 := by omega
    have HX : Hid (((hexD n).toNat : Int) = 48 + (n : Int)) := by show _ = _; rw [HX.out, if_pos h]
    clear hn
    go_enter Tryz.func72, Tryz.ntmps72
    go_wp2_with fail
    go_ret
    rw [HX.out]
    exact ⟨rfl, rfl⟩
  · have h' : ¬ (n : Int) < 10 := by omega
    have HX : Hid (((hexD n).toNat : Int) = 87 + (n : Int)) := by show _ = _; rw [HX.out, if_neg h]
    clear hn
    go_enter Tryz.func72, Tryz.ntmps72
    go_wp2_with fail
    go_ret
    rw [HX.out]
    refine ⟨?_, rfl⟩
    show Ending.returned (Value.int .u8 (97 + (n : Int) - 10)) = _
    rw [show 97 + (n : Int) - 10 = 87 + (n : Int) by omega]
set_option maxRecDepth 10000 in
theorem word_any (w : World) (r : Nat) (h1 : 1 ≤ r) (h6 : r ≤ 6) : Calls Tryz.prog 53 #[.int .i64 (r : Nat)] w fun e w' => e = .returned (.string (tx (wordL r))) ∧ Keeps no w w' := by
  obtain rfl | rfl | rfl | rfl | rfl | rfl : r = 1 ∨ r = 2 ∨ r = 3 ∨ r = 4 ∨ r = 5 ∨ r = 6 := by omega
  all_goals
    go_enter Tryz.func53, Tryz.ntmps53
    go_wp2_with fail
    go_ret
    exact ⟨rfl, (Keeps.refl _ _).alloc _⟩
end Go.Proofs.YtjkljljmjjnneaaGreatDoor
