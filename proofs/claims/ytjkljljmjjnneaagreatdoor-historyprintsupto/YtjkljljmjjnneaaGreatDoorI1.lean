/- What is read is what is written: numbers, texts. -/
import Derived.Test.YtjkljljmjjnneaaGreatDoorP2
import Derived.Test.YtjkljljmjjnneaaGreatDoorW2
namespace Go.Proofs.YtjkljljmjjnneaaGreatDoor
open Go.RowKit Go.Sort Orl
set_option linter.unusedVariables false
set_option linter.unusedSimpArgs false

theorem dec_snoc {a d : Nat} (ha : 1 ≤ a) (hd : d < 10) : Lib.decDigits (a * 10 + d) = Lib.decDigits a ++ [UInt8.ofNat (48 + d)] := by
  rw [Lib.decDigits.eq_1, dif_neg (by omega)]
  rw [show (a * 10 + d) / 10 = a by omega, show (a * 10 + d) % 10 = d by omega]
theorem dec_one {d : Nat} (hd : d < 10) : Lib.decDigits d = [UInt8.ofNat (48 + d)] := by
  rw [Lib.decDigits.eq_1, dif_pos hd]
theorem dig_back {c : UInt8} (h : 48 ≤ c.toNat ∧ c.toNat ≤ 57) : UInt8.ofNat (48 + (c.toNat - 48)) = c := by
  rw [show 48 + (c.toNat - 48) = c.toNat by omega]
  simp
theorem parse_dec {M : Nat} : ∀ (l : List UInt8) (a u : Nat), 1 ≤ a → Lib.parseUintM M a l = .ok u → Lib.decDigits u = Lib.decDigits a ++ l
  | [], a, u, ha, h => by
    rw [Lib.parseUintM.eq_1] at h
    injection h with h
    rw [h, List.append_nil]
  | c :: r, a, u, ha, h => by
    rw [Lib.parseUintM.eq_2] at h
    split at h
    · rename_i hc
      split at h
      · cases h
      · split at h
        · cases h
        · rw [parse_dec r _ u (by omega) h, dec_snoc ha (by omega), dig_back hc, List.append_assoc]
          rfl
    · cases h
theorem num_back {l : List UInt8} {u : Nat} (h : numR l = some u) : numW u = l := by
  unfold numR at h
  split at h
  · cases h
  · rename_i h0
    cases hp : Lib.parseUintB 64 l with
    | ok v =>
      rw [hp] at h
      simp only [Option.some.injEq] at h
      subst h
      unfold Lib.parseUintB at hp
      split at hp
      · cases hp
      · cases l with
        | nil => exact absurd rfl (by assumption)
        | cons c r =>
          rw [Lib.parseUintM.eq_2] at hp
          split at hp
          · rename_i hc
            rw [if_neg (by omega)] at hp
            split at hp
            · cases hp
            · unfold numW
              cases r with
              | nil =>
                rw [Lib.parseUintM.eq_1] at hp
                injection hp with hp
                rw [← hp, dec_one (by omega), show 0 * 10 + (c.toNat - 48) = c.toNat - 48 by omega, dig_back hc]
              | cons d r =>
                have hne : c ≠ 48 := fun e => h0 ⟨by simp, by simp [e]⟩
                have hc1 : c.toNat ≠ 48 := fun e => hne (by rw [← UInt8.toNat_inj]; exact e)
                rw [parse_dec (d :: r) _ v (by omega) hp, dec_one (by omega), show 0 * 10 + (c.toNat - 48) = c.toNat - 48 by omega, dig_back hc]
                rfl
          · cases hp
    | «syntax» => rw [hp] at h; cases h
    | range => rw [hp] at h; cases h
theorem hex_back (x : UInt8) (h : 0 ≤ hexV x) : hexD (hexV x).toNat = x := by
  have key : ∀ n : Fin 256, 0 ≤ hexV (UInt8.ofNat n.1) → hexD (hexV (UInt8.ofNat n.1)).toNat = UInt8.ofNat n.1 := by decide +kernel
  have h1 := key ⟨x.toNat, x.toNat_lt⟩
  simp only [UInt8.ofNat_toNat] at h1
  exact h1 h
theorem byte_back {l : List UInt8} (h : (byteR l).2 ≠ 0) : byteW (byteR l).1 = l.take (byteR l).2 ∧ 1 ≤ (byteR l).2 ∧ (byteR l).2 ≤ l.length := by
  unfold byteR at h ⊢
  cases l with
  | nil => exact absurd rfl h
  | cons a r =>
    simp only at h ⊢
    by_cases hp : plainB a = true
    · rw [if_pos hp]
      refine ⟨?_, Nat.le_refl _, by simp⟩
      unfold byteW
      rw [if_pos hp]
      rfl
    · rw [if_neg hp] at h ⊢
      by_cases h37 : a ≠ 37
      · rw [if_pos h37] at h; exact absurd rfl h
      · rw [if_neg h37] at h ⊢
        have ha : a = 37 := Classical.not_not.1 h37
        match r, h with
        | [], h => exact absurd rfl h
        | [x], h => exact absurd rfl h
        | x :: y :: r, h =>
          simp only at h ⊢
          by_cases hx : hexV x < 0
          · rw [if_pos hx] at h; exact absurd rfl h
          · by_cases hy : hexV y < 0
            · rw [if_neg hx, if_pos hy] at h; exact absurd rfl h
            · by_cases hq : plainB (UInt8.ofNat (hexV x * 16 + hexV y).toNat) = true
              · rw [if_neg hx, if_neg hy, if_pos hq] at h; exact absurd rfl h
              · rw [if_neg hx, if_neg hy, if_neg hq]
                refine ⟨?_, by show 1 ≤ 3; omega, by simp⟩
                have bx := hexV_lt x
                have byy := hexV_lt y
                unfold byteW
                rw [if_neg hq]
                have ht : (UInt8.ofNat (hexV x * 16 + hexV y).toNat).toNat = (hexV x * 16 + hexV y).toNat := by
                  rw [UInt8.toNat_ofNat']
                  omega
                rw [ht, show (hexV x * 16 + hexV y).toNat / 16 = (hexV x).toNat by omega, show (hexV x * 16 + hexV y).toNat % 16 = (hexV y).toNat by omega, hex_back x (by omega), hex_back y (by omega), ha]
                rfl
theorem bytes_back : ∀ (n : Nat) (l t : List UInt8), l.length ≤ n → bR l = some t → t.flatMap byteW = l
  | 0, l, t, hn, h => by
    have e : l = [] := List.length_eq_zero_iff.1 (by omega)
    subst e
    rw [bR_nil] at h
    injection h with h
    subst h; rfl
  | n + 1, l, t, hn, h => by
    by_cases e : l = []
    · subst e
      rw [bR_nil] at h
      injection h with h
      subst h; rfl
    · rw [bR_step e] at h
      by_cases hz : (byteR l).2 = 0
      · rw [if_pos hz] at h; cases h
      · rw [if_neg hz] at h
        obtain ⟨s, h1, rfl⟩ := Option.map_eq_some_iff.1 h
        obtain ⟨b1, b2, b3⟩ := byte_back hz
        rw [List.flatMap_cons, b1, bytes_back n _ s (by rw [List.length_drop]; omega) h1, List.take_append_drop]
theorem text_back {l t : List UInt8} (h : textR l = some t) : textW t = l := by
  unfold textR at h
  by_cases h1 : l = [37]
  · rw [if_pos h1] at h
    injection h with h
    subst h; rw [h1]; rfl
  · rw [if_neg h1] at h
    by_cases h2 : l = []
    · rw [if_pos h2] at h; cases h
    · rw [if_neg h2] at h
      have hb := bytes_back _ l t (Nat.le_refl _) h
      unfold textW
      rw [if_neg (fun e => h2 (by rw [← hb, e]; rfl)), hb]
      rfl
end Go.Proofs.YtjkljljmjjnneaaGreatDoor
