import Derived.Test.YtoijeipoblnliaaGreatDoorXE
/- The document's names of logs; BootNames. -/
namespace Go.Proofs.YtoijeipoblnliaaGreatDoor
open Go.RowKit Go.Maps Go.Sort Orl Pk
set_option linter.unusedVariables false
set_option linter.unusedSimpArgs false

theorem dec_small {u : Nat} (h : u < 10) : Lib.decDigits u = [UInt8.ofNat (48 + u % 10)] := by rw [Lib.decDigits, dif_pos h, Nat.mod_eq_of_lt h]
theorem dec_big {u : Nat} (h : ¬ u < 10) : Lib.decDigits u = Lib.decDigits (u / 10) ++ [UInt8.ofNat (48 + u % 10)] := by rw [Lib.decDigits, dif_neg h]
theorem dec_len {u : Nat} (h : u < 18446744073709551616) : (Lib.decDigits u).length ≤ 20 := by
  rw [Lib.decDigits_length]
  by_cases h1 : Lib.nDigits u ≤ 20
  · exact h1
  · exfalso
    have key : ∀ (k v : Nat), k < Lib.nDigits v → 10 ^ k ≤ v ∨ k = 0 := by
      intro k
      induction k with
      | zero => intro v _; exact .inr rfl
      | succ k ih =>
        intro v hv
        by_cases h10 : v < 10
        · rw [Lib.nDigits_small h10] at hv; omega
        · rw [Lib.nDigits_big h10] at hv
          rcases ih (v / 10) (by omega) with h | h
          · left; rw [Nat.pow_succ]; omega
          · left; subst h; simp; omega
    rcases key 20 u (by omega) with h2 | h2
    · omega
    · omega
theorem conv_digit (w : World) (u : Nat) : (convert 33 9 (.slice (some ⟨w.heap.size, 0, none⟩) 1 1)).run Tryz.prog (w.alloc (.cells #[.int .u8 (48 + (u : Int) % 10)] 5)) = .ok (.string ⟨#[UInt8.ofNat (48 + u % 10)]⟩) (w.alloc (.cells #[.int .u8 (48 + (u : Int) % 10)] 5)) := by
  have e : lit [UInt8.ofNat (48 + u % 10)] = #[.int .u8 (48 + (u : Int) % 10)] := by
    unfold lit bv
    simp only [List.map_cons, List.map_nil]
    have : (UInt8.ofNat (48 + u % 10)).toNat = 48 + u % 10 := by
      rw [UInt8.toNat_ofNat']; omega
    rw [this]
    simp
  have h := lit_sl w [UInt8.ofNat (48 + u % 10)] 1 (0, 0) (by simp)
  rw [e] at h
  have := run_textG _ _ [UInt8.ofNat (48 + u % 10)] 1 1 rfl h.row
  exact this
theorem add_lists (W : World) (a b : List UInt8) (ha : a.length ≤ 100) (hb : b.length ≤ 100) : (Op.stringOp .add (⟨a.toArray⟩ : ByteArray) ⟨b.toArray⟩).run Tryz.prog W = .ok (.string ⟨(a ++ b).toArray⟩) W :=
  run_string_add_lists (P := Tryz.prog) (w := W) a b (by omega) (by omega)

set_option maxRecDepth 10000 in
theorem digits_any : ∀ (u : Nat), u < 18446744073709551616 → ∀ w : World,
    Calls Tryz.prog 43 #[.int .u64 (u : Nat)] w fun e w' => e = .returned (.string ⟨(Lib.decDigits u).toArray⟩) ∧ Keeps no w w' := by
  intro u
  induction u using Nat.strongRecOn with
  | _ u ih =>
    intro hu w
    have hc := conv_digit w u
    obtain ⟨d, hd⟩ : ∃ d, d = UInt8.ofNat (48 + u % 10) := ⟨_, rfl⟩
    rw [← hd] at hc
    have HD : Hid (d = UInt8.ofNat (48 + u % 10)) := hd
    clear hd
    by_cases h : u < 10
    · have e : Hid (Lib.decDigits u = [d]) := by show _ = _; rw [HD.out]; exact dec_small h
      have h' : (u : Int) < 10 := by omega
      clear ih
      go_enter Tryz.func43, Tryz.ntmps43
      go_wp2_with fail
      go_ret
      rw [e.out]
      exact ⟨rfl, (Keeps.refl no w).alloc _⟩
    · have e : Hid (Lib.decDigits u = Lib.decDigits (u / 10) ++ [d]) := by show _ = _; rw [HD.out]; exact dec_big h
      have h' : ¬ (u : Int) < 10 := by omega
      have HI : Hid (∀ W, Calls Tryz.prog 43 #[.int .u64 (((u / 10 : Nat)) : Int)] W fun e w' => e = .returned (.string ⟨(Lib.decDigits (u / 10)).toArray⟩) ∧ Keeps no W w') := fun W => ih (u / 10) (by omega) (by omega) W
      have hadd : ∀ W : World, (Op.stringOp .add (⟨(Lib.decDigits (u / 10)).toArray⟩ : ByteArray) ⟨#[d]⟩).run Tryz.prog W = .ok (.string ⟨(Lib.decDigits u).toArray⟩) W := fun W => by
        have := add_lists W (Lib.decDigits (u / 10)) [d] (by have := dec_len (u := u / 10) (by omega); omega) (by simp)
        rw [e.out]
        exact this
      have hq : Hid ((u : Int) / 10 = ((u / 10 : Nat) : Int)) := by show _ = _; omega
      have hu' : (u : Int) ≤ 18446744073709551615 := by omega
      generalize hx : Lib.decDigits (u / 10) = X at hadd HI e
      generalize hy : Lib.decDigits u = Y at hadd e ⊢
      clear ih h hu hx hy
      go_enter Tryz.func43, Tryz.ntmps43
      go_wp2_with fail
      rw [hq.out]
      refine (HI.out _).mono ?_
      rintro e w2 ⟨rfl, hk⟩
      go_wp2_with fail
      go_ret
      exact ⟨rfl, ((Keeps.refl no w).alloc _).trans hk⟩

set_option maxRecDepth 10000 in
theorem rLog_any (w : World) (g : Int) (h0 : -9223372036854775808 ≤ g) (h1 : g ≤ 9223372036854775807) :
    Calls Tryz.prog 11 #[.int .i64 g] w fun e w' => e = .returned (.string (logN g)) ∧ Keeps no w w' := by
  by_cases h : g < 0
  · obtain ⟨u, hu⟩ : ∃ u : Nat, g = -(u : Int) := ⟨(-g).toNat, by omega⟩
    have hu1 : 1 ≤ u := by omega
    have hu2 : u ≤ 9223372036854775808 := by omega
    have hd := digits_any u (by omega)
    have e : Hid (logN (-(u : Int)) = ⟨(([108, 111, 103, 46, 45] : List UInt8) ++ Lib.decDigits u).toArray⟩) := by
      show _ = _
      unfold logN stemB
      rw [Lib.itoa_neg u hu1]
      rfl
    have hadd : ∀ W : World, (Op.stringOp .add (⟨#[108, 111, 103, 46, 45]⟩ : ByteArray) ⟨(Lib.decDigits u).toArray⟩).run Tryz.prog W = .ok (.string (logN g)) W := fun W => by
      have := add_lists W [108, 111, 103, 46, 45] (Lib.decDigits u) (by simp) (by have := dec_len (u := u) (by omega); omega)
      rw [hu, e.out]
      exact this
    have hc : IntKind.u64.wrap (-IntKind.u64.wrap g) = (u : Int) := by rw [Go.IntKind.wrap_u64, Go.IntKind.wrap_u64]; omega
    have HC : Hid (IntKind.u64.wrap (-IntKind.u64.wrap g) = (u : Int)) := hc
    have HU : Hid (g = -(u : Int)) := hu
    clear hu e hc hu1 hu2
    go_enter Tryz.func11, Tryz.ntmps11
    go_wp2_with fail
    rw [HC.out]
    refine (hd _).mono ?_
    rintro e w2 ⟨rfl, hk⟩
    go_wp2_with fail
    go_ret
    exact ⟨rfl, hk⟩
  · obtain ⟨u, hu⟩ : ∃ u : Nat, g = (u : Int) := ⟨g.toNat, by omega⟩
    have hd := digits_any u (by omega)
    have e : Hid (logN (u : Int) = ⟨(([108, 111, 103, 46] : List UInt8) ++ Lib.decDigits u).toArray⟩) := by
      show _ = _
      unfold logN stemB
      rw [Lib.itoa_nonneg u]
    have hadd : ∀ W : World, (Op.stringOp .add (⟨#[108, 111, 103, 46]⟩ : ByteArray) ⟨(Lib.decDigits u).toArray⟩).run Tryz.prog W = .ok (.string (logN g)) W := fun W => by
      have := add_lists W [108, 111, 103, 46] (Lib.decDigits u) (by simp) (by have := dec_len (u := u) (by omega); omega)
      rw [hu, e.out]
      exact this
    have HU : Hid (g = (u : Int)) := hu
    clear hu e
    go_enter Tryz.func11, Tryz.ntmps11
    go_wp2_with fail
    rw [HU.out] at hadd ⊢
    refine (hd _).mono ?_
    rintro e w2 ⟨rfl, hk⟩
    go_wp2_with fail
    go_ret
    rw [HU.out]
    exact ⟨rfl, hk⟩

theorem bootNames_any (w : World) (ht : Tabs w) (g : Int) (h0 : -9223372036854775808 ≤ g) (h1 : g ≤ 9223372036854775807) :
    Calls Tryz.prog 3 #[.int .i64 g] w fun e w' => e = .returned (.bool true) ∧ Keeps no w w' := by
  have HT : Hid (Tabs w) := ht
  clear ht
  go_enter Tryz.func3, Tryz.ntmps3
  go_wp2_with fail
  refine (known_any w HT.out).mono ?_
  rintro e w1 ⟨rfl, hk1⟩
  have K1 : Hid (Keeps no w w1) := hk1
  clear hk1
  go_wp2_with fail
  refine (log_any w1 (HT.out.keepsN K1.out).pow g h0 h1).mono ?_
  rintro e w2 ⟨rfl, hk2⟩
  have K2 : Hid (Keeps no w w2) := K1.out.trans hk2
  clear hk2
  go_wp2_with fail
  refine (rLog_any w2 g h0 h1).mono ?_
  rintro e w3 ⟨rfl, hk3⟩
  have K3 : Hid (Keeps no w w3) := K2.out.trans hk3
  clear hk3
  generalize logN g = X
  go_wp2_with fail
  go_ret
  exact ⟨rfl, K3.out⟩
end Go.Proofs.YtoijeipoblnliaaGreatDoor
