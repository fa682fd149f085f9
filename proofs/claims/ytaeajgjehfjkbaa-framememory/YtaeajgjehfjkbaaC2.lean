/- Build, the document's Build, long. -/
import Derived.Test.YtaeajgjehfjkbaaC1
namespace Go.Proofs.Ytaeajgjehfjkbaa
open Go.RowKit
set_option linter.unusedVariables false
set_option linter.unusedSimpArgs false

theorem build_long (w : World) (a : Option Addr) (n c : Nat) (h : 1048576 < (n : Int)) :
    Calls Try.prog 9 #[.slice a n c] w fun e w' => e = .returned (.tuple #[.slice none 0 0, .int .i64 3]) ∧ w' = w := by
  go_enter Try.func9, Try.ntmps9
  go_wp2
  go_ret2
  exact ⟨rfl, rfl⟩
theorem refBuild_long (w : World) (a : Option Addr) (n c : Nat) (h : 1048576 < (n : Int)) :
    Calls Try.prog 15 #[.slice a n c] w fun e w' => e = .returned (.tuple #[.slice none 0 0, .int .i64 3]) ∧ w' = w := by
  go_enter Try.func15, Try.ntmps15
  go_wp2
  go_ret2
  exact ⟨rfl, rfl⟩
theorem hd_cells (n : Nat) (h : (n : Int) ≤ 1048576) : #[Value.int .u8 ((n : Int) / 16777216), .int .u8 ((n : Int) / 65536), .int .u8 (IntKind.u8.wrap ((n : Int) / 256)), .int .u8 (IntKind.u8.wrap (n : Int))].toList = BE.cells (hd n) := by
  rw [cells_B]
  simp only [hd, List.map_cons, List.map_nil, bv, UInt8.toNat_ofNat']
  rw [IntKind.wrap_u8, IntKind.wrap_u8]
  have e0 : (n : Int) / 16777216 = ((n / 16777216 % 2 ^ 8 : Nat) : Int) := by omega
  have e1 : (n : Int) / 65536 = ((n / 65536 % 2 ^ 8 : Nat) : Int) := by omega
  have e2 : (n : Int) / 256 % 256 = ((n / 256 % 2 ^ 8 : Nat) : Int) := by omega
  have e3 : (n : Int) % 256 = ((n % 2 ^ 8 : Nat) : Int) := by omega
  rw [e0, e1, e2, e3]
theorem make0 (w : World) (n : Nat) (hb : n ≤ 140737488355328) : ∃ w', (Instr.makeSlice 24 (.int .i64 0) (.int .i64 (n : Int))).run Try.prog w = .ok (.slice (some ⟨w.heap.size, 0, none⟩) 0 n) w' ∧ Own BE w' (some ⟨w.heap.size, 0, none⟩) n [] ∧ Keeps no w w' := by
  obtain ⟨i0, hi, hz0, hz1, hz2⟩ := info_parts info5
  obtain ⟨w', h1, h2, h3⟩ := run_make_own (P := Try.prog) w 0 24 5 i0 _ 1 Try.underlying24 hi hz0 hz1 .i64 .i64 n (by rw [hz2]; omega) (by unfold maxLen; omega) (Nat.zero_le _)
  refine ⟨w', h1, h2, (Keeps.refl _ _).grown h3 (fun k hk => by cases hk)⟩
set_option maxRecDepth 10000 in
theorem build_any (w : World) (a : Option Addr) (n c : Nat) (xs : List UInt8) (hn : n = xs.length) (hs : Sl BE w a c xs) (h : (n : Int) ≤ 1048576) :
    Calls Try.prog 9 #[.slice a n c] w fun e w' => ∃ o m c', e = .returned (.tuple #[.slice o m c', .int .i64 0]) ∧ Hid (m = 4 + n) ∧ Own BE w' o c' (fr xs) ∧ New w o ∧ Keeps no w w' := by
  obtain ⟨w1, hmk, hO1, hK1⟩ := make0 w (4 + n) (by omega)
  have HN : Hid (n = xs.length) := hn
  have HO1 : Hid (Own BE w1 (some ⟨w.heap.size, 0, none⟩) (4 + n) []) := hO1
  have HK1 : Hid (Keeps no w w1) := hK1
  have HS : Hid (Sl BE w a c xs) := hs
  have HC := hd_cells n h
  have HB : Hid (n ≤ 1048576) := by show n ≤ 1048576; omega
  rw [show (((4 + n : Nat) : Nat) : Int) = 4 + (n : Int) by omega] at hmk
  obtain ⟨z2, hz2⟩ : ∃ z, IntKind.u8.wrap ((n : Int) / 256) = z := ⟨_, rfl⟩
  obtain ⟨z3, hz3⟩ : ∃ z, IntKind.u8.wrap (n : Int) = z := ⟨_, rfl⟩
  rw [hz2, hz3] at HC
  have HC' : Hid (#[Value.int .u8 ((n : Int) / 16777216), .int .u8 ((n : Int) / 65536), .int .u8 z2, .int .u8 z3].toList = BE.cells (hd n)) := HC
  clear hn hO1 hK1 hs HC
  go_enter Try.func9, Try.ntmps9
  go_wp2_with (at_builtin; first | (refine wpList_app okB rfl _ _ rfl _ 0 _ [] rfl rfl (HO1.out.keepsN ((Keeps.refl _ _).alloc _)) _ _ _ (hd n) rfl rfl (fun e => by cases e) (lit_row okB w1 (hd n) _ _ HC'.out) (by simp [BE, hd_len]) (by simp [hd_len]) ?_; intro o2 c2 w2 ho2 hap2; have HO2 : Hid (Own BE w2 o2 c2 (hd n)) := ho2; have HK2 : Hid (New w o2 ∧ Keeps no w w2) := hap2.new (new_fresh w _ (Nat.le_refl _) _) (HK1.out.alloc _); clear ho2 hap2) | (refine wpList_app okB rfl _ _ rfl o2 _ c2 (hd n) rfl rfl HO2.out _ _ _ xs rfl HN.out HS.out.nil (HS.out.row.keepsN HK2.out.2) (by have := HB.out; have := HN.out; simp [BE, hd_len]; omega) (by have := HB.out; have := HN.out; simp [hd_len]; omega) ?_; intro o3 c3 w3 ho3 hap3))
  go_ret2
  have := hap3.new HK2.out.1 HK2.out.2
  exact ⟨_, _, _, rfl, (by first | rfl | (show _ = _; omega)), by rw [fr, ← HN.out]; exact ho3, this.1, this.2⟩
end Go.Proofs.Ytaeajgjehfjkbaa
