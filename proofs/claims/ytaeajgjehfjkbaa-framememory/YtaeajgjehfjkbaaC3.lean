/- The document's Build, long. -/
import Derived.Test.YtaeajgjehfjkbaaC2
namespace Go.Proofs.Ytaeajgjehfjkbaa
open Go.RowKit
set_option linter.unusedVariables false
set_option linter.unusedSimpArgs false

theorem hd_cells2 (n : Nat) (h : (n : Int) ≤ 1048576) : #[Value.int .u8 ((n : Int) / 16777216), .int .u8 ((n : Int) / 65536 % 256), .int .u8 ((n : Int) / 256 % 256), .int .u8 ((n : Int) % 256)].toList = BE.cells (hd n) := by
  rw [← hd_cells n h, IntKind.wrap_u8, IntKind.wrap_u8]
  have e1 : (n : Int) / 65536 % 256 = (n : Int) / 65536 := by omega
  rw [e1]
set_option maxRecDepth 10000 in
theorem refBuild_any (w : World) (a : Option Addr) (n c : Nat) (xs : List UInt8) (hn : n = xs.length) (hs : Sl BE w a c xs) (h : (n : Int) ≤ 1048576) :
    Calls Try.prog 15 #[.slice a n c] w fun e w' => ∃ o m c', e = .returned (.tuple #[.slice o m c', .int .i64 0]) ∧ Hid (m = 4 + n) ∧ Own BE w' o c' (fr xs) ∧ New w o ∧ Keeps no w w' := by
  have HN : Hid (n = xs.length) := hn
  have HS : Hid (Sl BE w a c xs) := hs
  have HC : Hid (_ = _) := hd_cells2 n h
  have HB : Hid (n ≤ 1048576) := by show n ≤ 1048576; omega
  clear hn hs
  go_enter Try.func15, Try.ntmps15
  go_wp2_with (at_builtin; refine wpList_app okB rfl _ _ rfl _ _ _ (hd n) rfl rfl (lit_own okB w (hd n) 4 rfl (by unfold maxLen; omega) _ HC.out) _ _ _ xs rfl HN.out HS.out.nil (HS.out.row.keepsN ((Keeps.refl _ _).alloc _)) (by have := HB.out; have := HN.out; simp [BE, hd_len]; omega) (by have := HB.out; have := HN.out; simp [hd_len]; omega) ?_; intro o3 c3 w3 ho3 hap3)
  go_ret2
  have := hap3.new (new_fresh w _ (Nat.le_refl _) _) ((Keeps.refl _ _).alloc _)
  exact ⟨_, _, _, rfl, (by first | rfl | (show _ = _; omega)), by rw [fr, ← HN.out]; exact ho3, this.1, this.2⟩

theorem Own.store {w : World} {o : Option Addr} {c : Nat} {xs : List UInt8} (h : Own BE w o c xs) (k : Nat) (hk : k < xs.length) (v : UInt8) :
    ∃ g, o = some ⟨g, 0, none⟩ ∧ w.cell? ⟨g, k, none⟩ = some (bv (xs.getD k 0)) ∧ w.frozen? ⟨g, k, none⟩ = false ∧ Own BE (w.setCell ⟨g, k, none⟩ (bv v)) o c (xs.set k v) ∧ Keeps (inO o) w (w.setCell ⟨g, k, none⟩ (bv v)) := by
  have hrow := h.row
  rcases h.shape with ⟨_, _, e⟩ | ⟨g, cur, rfl, hg, h2, h3, h4, h5⟩
  · rw [e] at hk; simp at hk
  · obtain ⟨b, off, e, hc⟩ := rowB_at h.row hk
    cases e
    rw [Nat.zero_add] at hc
    refine ⟨g, rfl, hc, frozen_of_blk hg k, ?_, (Keeps.refl _ w).setCell (p := ⟨g, k, none⟩) (.inl ⟨_, rfl, rfl⟩) _⟩
    refine own_of_shape okB (blk_set hg k (bv v)) (by simpa using h2) h3 (by simpa using h4) ?_
    rw [cells_B] at h5 ⊢
    simp only [List.length_set, Array.toList_setIfInBounds, List.take_set, h5, List.map_set]
/-- a long body: zeros, but the first and the last byte -/
def lg (n : Nat) : Bs := ((List.replicate n 0).set 0 1).set (n - 1) 2
theorem lg_len (n : Nat) : (lg n).length = n := by simp [lg]
theorem makeF (w : World) (n : Nat) (hb : n ≤ 140737488355328) : ∃ w1, (Instr.makeSlice 24 (.int .i64 (n : Int)) (.int .i64 (n : Int))).run Try.prog w = .ok (.slice (some ⟨w.heap.size, 0, none⟩) n n) w1 ∧ Own BE w1 (some ⟨w.heap.size, 0, none⟩) n (List.replicate n 0) ∧ Keeps no w w1 := by
  obtain ⟨Z, hZ, hZ2, hmk⟩ := makeB n hb
  exact ⟨_, hmk w, lit_own okB w (List.replicate n 0) n (by simp) (by unfold maxLen; omega) Z hZ2, (Keeps.refl _ _).alloc _⟩
theorem long_any (w : World) (n : Nat) (h0 : 0 < n) (hb : (n : Int) ≤ 2000000) :
    Calls Try.prog 10 #[.int .i64 (n : Int)] w fun e w' => ∃ o c, e = .returned (.slice o n c) ∧ Own BE w' o c (lg n) ∧ New w o ∧ Keeps no w w' := by
  obtain ⟨w1, hmk, hO, hK0⟩ := makeF w n (by omega)
  obtain ⟨g1, e1, d1, f1, hO1, hK1⟩ := hO.store 0 (by simpa using h0) 1
  cases e1
  obtain ⟨g2, e2, d2, f2, hO2, hK2⟩ := hO1.store (n - 1) (by simp; omega) 2
  cases e2
  have HO2 : Hid (Own BE _ _ n (lg n)) := hO2
  have HK : Hid (Keeps no w _) := (hK0.then hK1 (fun i hi => .inr (new_fresh w _ (Nat.le_refl _) _ i hi))).then hK2 (fun i hi => .inr (new_fresh w _ (Nat.le_refl _) _ i hi))
  have b1 : bv 1 = .int .u8 1 := rfl
  have b2 : bv 2 = .int .u8 2 := rfl
  rw [b1, b2] at HO2 HK
  rw [b1] at d2 f2
  obtain ⟨v1, hv1⟩ : ∃ v, v = bv ((List.replicate n 0).getD 0 0) := ⟨_, rfl⟩
  obtain ⟨v2, hv2⟩ : ∃ v, v = bv (((List.replicate n 0).set 0 1).getD (n - 1) 0) := ⟨_, rfl⟩
  rw [← hv1] at d1
  rw [← hv2] at d2
  clear hv1 hv2 b1 b2
  have hsub : (n : Int) - 1 = ((n - 1 : Nat) : Int) := by omega
  have hpos : ((0 : Int) < n) := by omega
  obtain ⟨m, hm⟩ : ∃ m, m = n - 1 := ⟨_, rfl⟩
  rw [← hm] at hsub d2 f2 HO2 HK
  have hmn : m < n := by omega
  clear hO hO1 hO2 hK1 hK2 hK0 hm
  go_enter Try.func10, Try.ntmps10
  go_wp2_with fail
  go_ret
  exact ⟨_, _, rfl, HO2.out, new_fresh w _ (Nat.le_refl _) _, HK.out⟩
end Go.Proofs.Ytaeajgjehfjkbaa
