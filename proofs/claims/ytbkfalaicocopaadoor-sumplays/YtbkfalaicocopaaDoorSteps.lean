import Derived.Test.YtbkfalaicocopaaDoorProg
import Derived.Test.YtbkfalaicocopaaDoorMath
import Derived.WalkKit
import Derived.WalkLawsBesides
import Derived.WalkSpells
import Derived.Laws.BitsAllLaws
namespace Go.Proofs.YtbkfalaicocopaaDoor
open Go.RowKit
open Crc

theorem ret_u32 {a b : Int} (h : a = b) : Ending.returned (.int .u32 a) = .returned (.int .u32 b) := by rw [h]
theorem and1 (r : Nat) (hr : r < 4294967296) : bits .and .u32 (r : Int) 1 = ((r % 2 : Nat) : Int) := by
  have := u32_and_nat r 1 hr (by decide)
  rw [nat_mask1] at this
  exact this
theorem and15 (r : Nat) (hr : r < 4294967296) : bits .and .u32 (r : Int) 15 = ((r % 16 : Nat) : Int) := by
  have := u32_and_nat r 15 hr (by decide)
  rw [nat_mask4] at this
  exact this
theorem bitStep_num (r : Nat) (hr : r < 4294967296) : bits .xor .u32 ((r : Int) / 2) (3988292384 * bits .and .u32 (r : Int) 1 % 4294967296) = (sh r : Nat) := by
  rw [and1 r hr]
  have e1 : (r : Int) / 2 = ((r / 2 : Nat) : Int) := by omega
  have e2 : 3988292384 * ((r % 2 : Nat) : Int) % 4294967296 = ((r % 2 * 3988292384 : Nat) : Int) := by omega
  rw [e1, e2, u32_xor_nat _ _ (by omega) (by omega)]
  rfl

theorem bitStep_any (r : Nat) (hr : r < 4294967296) (w : World) :
    Calls Tryd.prog 26 #[.int .u32 (r : Int)] w fun e w' => e = .returned (.int .u32 (sh r : Nat)) ∧ w' = w := by
  go_enter Tryd.func26, Tryd.ntmps26
  go_wp2
  go_ret
  exact ⟨ret_u32 (bitStep_num r hr), rfl⟩

theorem half_num (x : Nat) (hx : x < 4294967296) : bits .xor .u32 ((x : Int) / 16) (tab.getD (x % 16) 0 : Nat) = (shn 4 x : Nat) := by
  have e1 : (x : Int) / 16 = ((x / 16 : Nat) : Int) := by omega
  have h2 : tab.getD (x % 16) 0 < 4294967296 := by rw [← tab_eq _ (Nat.mod_lt _ (by decide))]; exact shn_lt _ _ (by omega)
  rw [e1, u32_xor_nat _ _ (by omega) h2, half]

def TabIn (w : World) : Prop := ∀ k, k < 16 → w.cell? ⟨0, k, none⟩ = some (.int .u32 (tab.getD k 0 : Nat))

theorem byteStep_any (r : Nat) (hr : r < 4294967296) (w : World) (ht : TabIn w) :
    Calls Tryd.prog 23 #[.int .u32 (r : Int)] w fun e w' => e = .returned (.int .u32 (shn 8 r : Nat)) ∧ w' = w := by
  go_enter Tryd.func23, Tryd.ntmps23
  go_wp2
  go_loop [0, 3] (fun x i => ∃ k : Nat, k ≤ 2 ∧ i = .int .i64 k ∧ x = .int .u32 (shn (4 * k) r : Nat)) (fun _ i => 2 - (intOf i).toNat)
  case atStart => exact ⟨0, by omega, rfl, rfl⟩
  case round =>
    obtain ⟨k, hk, rfl, rfl⟩ := hrel
    obtain ⟨x, hx⟩ : ∃ x, x = shn (4 * k) r := ⟨_, rfl⟩
    have hlt := shn_lt (4 * k) r hr
    rw [← hx] at hlt ⊢
    have HX : Hid (x = shn (4 * k) r) := hx
    clear hx
    have hb := and15 x hlt
    have hm : x % 16 < 16 := Nat.mod_lt _ (by decide)
    have hc := ht (x % 16) hm
    have hn := half_num x hlt
    by_cases h2 : k < 2
    · go_wp2
      go_round
      case rel => exact ⟨k + 1, by omega, by go_num, by simp only [List.getD_eq_getElem?_getD] at hn; rw [hn, HX.out, ← shn_add, show 4 + 4 * k = 4 * (k + 1) by omega]⟩
      case measure => simp [intOf]; omega
    · go_wp2
      go_ret
      obtain rfl : k = 2 := by omega
      exact ⟨by rw [HX.out]; rfl, rfl⟩

theorem mulbit_num (x p q : Nat) (b : Nat) (hb : b < 2) (hx : x < 4294967296) (hp : p < 4294967296) (hq : q = p ^^^ x * b) : bits .xor .u32 (p : Int) ((x : Int) * (b : Int) % 4294967296) = (q : Int) := by
  have h1 : b = 0 ∨ b = 1 := by omega
  have e : (x : Int) * (b : Int) % 4294967296 = ((x * b : Nat) : Int) := by rcases h1 with rfl | rfl <;> omega
  have e2 : x * b < 4294967296 := by rcases h1 with rfl | rfl <;> omega
  rw [e, u32_xor_nat _ _ hp e2, hq]

theorem prodbit_num (a k x p : Nat) (ha : a < 4294967296) (hx : x < 4294967296) (hp : p < 4294967296) :
    bits .xor .u32 (p : Int) ((x : Int) * bits .and .u32 ((a : Int) / 2 ^ (31 - k)) 1 % 4294967296) = ((p ^^^ x * (a / 2 ^ (31 - k) % 2) : Nat) : Int) := by
  have e : (a : Int) / 2 ^ (31 - k) = ((a / 2 ^ (31 - k) : Nat) : Int) := by simp
  have hl : a / 2 ^ (31 - k) < 4294967296 := Nat.lt_of_le_of_lt (Nat.div_le_self _ _) ha
  rw [e, and1 _ hl]
  exact mulbit_num x p _ _ (bit_lt _ _) hx hp rfl

theorem product_any (a b : Nat) (ha : a < 4294967296) (hb : b < 4294967296) (w : World) :
    Calls Tryd.prog 21 #[.int .u32 (a : Int), .int .u32 (b : Int)] w fun e w' => e = .returned (.int .u32 (prod a b : Nat)) ∧ w' = w := by
  go_enter Tryd.func21, Tryd.ntmps21
  go_wp2_with fail
  go_loop [1, 5, 7] (fun x p i => ∃ k : Nat, k ≤ 32 ∧ i = .int .i64 k ∧ x = .int .u32 (shn k b : Nat) ∧ p = .int .u32 (pr a b k : Nat)) (fun _ _ i => 32 - (intOf i).toNat)
  case atStart => exact ⟨0, by omega, rfl, rfl, rfl⟩
  case round =>
    obtain ⟨k, hk, rfl, rfl, rfl⟩ := hrel
    obtain ⟨x, hx⟩ : ∃ x, x = shn k b := ⟨_, rfl⟩
    obtain ⟨p, hp⟩ : ∃ p, p = pr a b k := ⟨_, rfl⟩
    have hxl := shn_lt k b hb
    have hpl := pr_lt a b k hb
    rw [← hx] at hxl ⊢
    rw [← hp] at hpl ⊢
    have HX : Hid (x = shn k b) := hx
    have HP : Hid (p = pr a b k) := hp
    clear hx hp
    by_cases h2 : k < 32
    · go_wp2_with (go_at_call 26; refine (bitStep_any _ hxl _).mono ?_; rintro e w' ⟨rfl, rfl⟩)
      go_round
      case rel => exact ⟨k + 1, by omega, by go_num, by rw [HX.out]; rfl, by rw [prodbit_num a k x p ha hxl hpl, HX.out, HP.out]; rfl⟩
      case measure => simp [intOf]; omega
    · go_wp2_with fail
      go_ret
      obtain rfl : k = 32 := by omega
      exact ⟨by rw [HP.out]; rfl, rfl⟩

end Go.Proofs.YtbkfalaicocopaaDoor
