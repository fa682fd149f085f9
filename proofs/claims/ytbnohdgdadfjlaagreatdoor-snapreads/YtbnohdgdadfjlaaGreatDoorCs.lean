/- The program's checksum. -/
import Derived.Test.YtbnohdgdadfjlaaGreatDoorPb
import Derived.Test.YtbnohdgdadfjlaaGreatDoorCm
import Derived.WalkLawsBesides
import Derived.WalkSpells
import Derived.Laws.BitsAllLaws
namespace Go.Proofs.YtbnohdgdadfjlaaGreatDoor
open Go.RowKit
open Crc
set_option linter.unusedVariables false
set_option linter.unusedSimpArgs false

theorem ret_u32 {a b : Int} (h : a = b) : Ending.returned (.int .u32 a) = .returned (.int .u32 b) := by rw [h]
theorem and15 (r : Nat) (hr : r < 4294967296) : bits .and .u32 (r : Int) 15 = ((r % 16 : Nat) : Int) := by
  have := u32_and_nat r 15 hr (by decide)
  rw [nat_mask4] at this
  exact this
theorem half_num (x : Nat) (hx : x < 4294967296) : bits .xor .u32 ((x : Int) / 16) (tab.getD (x % 16) 0 : Nat) = (shn 4 x : Nat) := by
  have e1 : (x : Int) / 16 = ((x / 16 : Nat) : Int) := by omega
  have h2 : tab.getD (x % 16) 0 < 4294967296 := by rw [← tab_eq _ (Nat.mod_lt _ (by decide))]; exact shn_lt _ _ (by omega)
  rw [e1, u32_xor_nat _ _ (by omega) h2, half]

def TabIn (w : World) : Prop := ∀ k, k < 16 → w.cell? ⟨0, k, none⟩ = some (.int .u32 (tab.getD k 0 : Nat))
theorem TabIn.keeps {S : Nat → Prop} {w w' : World} (h : TabIn w) (hk : Keeps S w w') (h0 : ¬ S 0) : TabIn w' := fun k hk' => hk.cell (h k hk') h0
theorem TabIn.keepsN {w w' : World} (h : TabIn w) (hk : Keeps no w w') : TabIn w' := h.keeps hk (fun h => h)

theorem byteStep_any (r : Nat) (hr : r < 4294967296) (w : World) (ht : TabIn w) :
    Calls Tryz.prog 119 #[.int .u32 (r : Int)] w fun e w' => e = .returned (.int .u32 (shn 8 r : Nat)) ∧ w' = w := by
  go_enter Tryz.func119, Tryz.ntmps119
  go_wp2
  go_loop [0, 3] (fun x i => ∃ k : Nat, k ≤ 2 ∧ i = .int .i64 k ∧ x = .int .u32 (shn (4 * k) r : Nat)) (fun _ i => 2 - (intOf i).toNat)
  case atStart => exact ⟨0, by omega, rfl, rfl⟩
  case round =>
    obtain ⟨k, hk, rfl, rfl⟩ := hrel
    obtain ⟨x, hx⟩ : ∃ x, x = shn (4 * k) r := ⟨_, rfl⟩
    have hlt := shn_lt (4 * k) r hr
    rw [← hx] at hlt ⊢
    have HX : Hid (x = shn (4 * k) r) := hx
    clear hx
    have hb := and15 x hlt
    have hm : x % 16 < 16 := Nat.mod_lt _ (by decide)
    have hc := ht (x % 16) hm
    have hn := half_num x hlt
    by_cases h2 : k < 2
    · go_wp2
      go_round
      case rel => exact ⟨k + 1, by omega, by go_num, by simp only [List.getD_eq_getElem?_getD] at hn; rw [hn, HX.out, ← shn_add, show 4 + 4 * k = 4 * (k + 1) by omega]⟩
      case measure => simp [intOf]; omega
    · go_wp2
      go_ret
      obtain rfl : k = 2 := by omega
      exact ⟨by rw [HX.out]; rfl, rfl⟩

theorem not_num (s : Nat) (hs : s < 4294967296) : bits .xor .u32 IntKind.u32.max (s : Int) = ((s ^^^ 4294967295 : Nat) : Int) := by
  have := u32_xor_nat 4294967295 s (by decide) hs
  rw [Nat.xor_comm] at this
  exact this
theorem mix_num (r c : Nat) (hr : r < 4294967296) (hc : c < 256) : bits .xor .u32 (r : Int) (c : Int) = ((r ^^^ c : Nat) : Int) :=
  u32_xor_nat r c hr (by omega)
theorem upd_snoc (r : Nat) (bs : List Nat) (k : Nat) (h : k < bs.length) : upd r (bs.take (k + 1)) = shn 8 (upd r (bs.take k) ^^^ bs.getD k 0) := by
  rw [List.take_succ_eq_append_getElem h, upd_append]
  simp [upd, List.getD_eq_getElem?_getD, h]
theorem getD_lt' (bs : List Nat) (hby : ∀ c ∈ bs, c < 256) (k : Nat) (h : k < bs.length) : bs.getD k 0 < 256 := by
  rw [List.getD_eq_getElem?_getD, List.getElem?_eq_getElem h]
  exact hby _ (List.getElem_mem h)

theorem update_any (s : Nat) (a : Option Addr) (n : Nat) (bs : List Nat) (cap : Nat) (hn : n = bs.length) (hs : s < 4294967296) (w : World) (ht : TabIn w) (hr : BRow w a bs) :
    Calls Tryz.prog 71 #[.int .u32 (s : Int), .slice a n cap] w fun e w' => e = .returned (.int .u32 (update s bs : Nat)) ∧ w' = w := by
  obtain ⟨hby, hm, hcell⟩ := hr
  rw [← hn] at hm hcell
  have HN : Hid (n = bs.length) := hn
  clear hn
  go_enter Tryz.func71, Tryz.ntmps71
  go_wp2_with fail
  go_loop [5, 11] (fun r i => ∃ k : Nat, k ≤ n ∧ i = .int .i64 k ∧ r = .int .u32 (upd (s ^^^ 4294967295) (bs.take k) : Nat)) (fun _ i => n - (intOf i).toNat)
  case atStart => exact ⟨0, by omega, rfl, by rw [not_num s hs]; rfl⟩
  case round =>
    obtain ⟨k, hk, rfl, rfl⟩ := hrel
    have hrl := upd_lt (bs.take k) (fun c hc => hby c (List.mem_of_mem_take hc)) (s ^^^ 4294967295) (xor_lt32 _ _ hs (by decide))
    obtain ⟨r, hr⟩ : ∃ r, r = upd (s ^^^ 4294967295) (bs.take k) := ⟨_, rfl⟩
    rw [← hr] at hrl ⊢
    have HR : Hid (r = upd (s ^^^ 4294967295) (bs.take k)) := hr
    clear hr
    by_cases h2 : k < n
    · have hkb : k < bs.length := by have := HN.out; omega
      have hcl := getD_lt' bs hby k hkb
      have hsn := upd_snoc (s ^^^ 4294967295) bs k hkb
      rcases hcell with h0 | ⟨b, off, rfl, hc⟩
      · rw [h0] at hkb; simp at hkb
      obtain ⟨c, hcc⟩ : ∃ c, c = bs.getD k 0 := ⟨_, rfl⟩
      have hck := hc k h2
      rw [← hcc] at hcl hsn hck
      have HS : Hid (upd (s ^^^ 4294967295) (bs.take (k + 1)) = shn 8 (upd (s ^^^ 4294967295) (bs.take k) ^^^ c)) := hsn
      have hmix := mix_num r c hrl hcl
      have hxl := xor_lt32 r c hrl (by omega)
      clear hsn hcc hc hby
      go_wp2_with (go_at_call 119; go_must (refine (byteStep_any _ hxl _ ht).mono ?_); rintro e w' ⟨rfl, rfl⟩)
      go_round
      case rel => exact ⟨k + 1, by omega, by go_num, by rw [HS.out, HR.out]⟩
      case measure => simp [intOf]; omega
    · go_wp2_with fail
      go_ret
      obtain rfl : k = n := by omega
      exact ⟨ret_u32 (by rw [not_num r hrl, HR.out, HN.out, List.take_length]; rfl), rfl⟩

theorem sum_any (a : Option Addr) (n : Nat) (bs : List Nat) (cap : Nat) (hn : n = bs.length) (w : World) (ht : TabIn w) (hr : BRow w a bs) :
    Calls Tryz.prog 24 #[.slice a n cap] w fun e w' => e = .returned (.int .u32 (Crc.sum bs : Nat)) ∧ w' = w := by
  have HN : Hid (n = bs.length) := hn
  clear hn
  go_enter Tryz.func24, Tryz.ntmps24
  go_wp2_with (go_at_call 71; go_must (refine (update_any 0 a n bs cap HN.out (by decide) _ ht hr).mono ?_); rintro e w' ⟨rfl, rfl⟩)
  go_ret
  exact ⟨rfl, rfl⟩
end Go.Proofs.YtbnohdgdadfjlaaGreatDoor
