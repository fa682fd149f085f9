/- Two shots held against one another. -/
import Derived.Test.YtgobakfffobpkaaT4
namespace Go.Proofs.Ytgobakfffobpkaa
open Go.RowKit Dk
set_option linter.unusedVariables false
set_option linter.unusedSimpArgs false

set_option maxRecDepth 100000 in
theorem sameShot_yes (w : World) (x y : Sh) (hx : ShAt w x) (hy : ShAt w y) (hn : x.nm = y.nm) (hl : x.ls.map (·.xs) = y.ls.map (·.xs)) (h1 : x.nm.length ≤ 16) (h2 : x.ls.length ≤ 16) :
    Calls Try.prog 28 #[.agg x.cells, .agg y.cells] w fun e w' => e = .returned (.bool true) ∧ Keeps no w w' := by
  obtain ⟨n, hnn⟩ : ∃ n, n = x.nm.length := ⟨_, rfl⟩
  obtain ⟨m, hmm⟩ : ∃ m, m = x.ls.length := ⟨_, rfl⟩
  have e1 : x.cells = #[.slice x.on n x.cn, .slice x.ob m x.cb] := by rw [Sh.cells, hnn, hmm]
  have e2 : y.cells = #[.slice y.on n y.cn, .slice y.ob m y.cb] := by
    have := congrArg List.length hl
    simp at this
    rw [Sh.cells, hnn, hmm, hn, this]
  rw [e1, e2]
  have hn16 : n ≤ 16 := by omega
  have hm16 : m ≤ 16 := by omega
  have HX : Hid (ShAt w x) := hx
  have HY : Hid (ShAt w y) := hy
  have HN : Hid (x.nm = y.nm ∧ n = x.nm.length) := ⟨hn, hnn⟩
  have HL : Hid (x.ls.map (·.xs) = y.ls.map (·.xs) ∧ m = x.ls.length) := ⟨hl, hmm⟩
  obtain ⟨W, hW⟩ : ∃ W, W = (w.alloc (.cells #[.slice x.on n x.cn, .slice x.ob m x.cb] 48)).alloc (.cells #[.slice y.on n y.cn, .slice y.ob m y.cb] 48) := ⟨_, rfl⟩
  have K0 : Hid (Keeps no w W) := (show _ by rw [hW]; exact (keeps_alloc w _).trans (keeps_alloc _ _))
  have b1 : W.heap[w.heap.size]? = some (.cells #[.slice x.on n x.cn, .slice x.ob m x.cb] 48 (0, 0)) := by rw [hW]; exact blk_alloc (blk_new w _) _
  have b2 : W.heap[w.heap.size + 1]? = some (.cells #[.slice y.on n y.cn, .slice y.ob m y.cb] 48 (0, 0)) := by
    have := blk_new (w.alloc (.cells #[.slice x.on n x.cn, .slice x.ob m x.cb] 48)) (.cells #[.slice y.on n y.cn, .slice y.ob m y.cb] 48)
    rw [hW]
    simpa using this
  obtain ⟨a, ha⟩ : ∃ a, a = w.heap.size := ⟨_, rfl⟩
  obtain ⟨b, hb⟩ : ∃ b, b = a + 1 := ⟨_, rfl⟩
  rw [← ha] at b1 b2
  rw [← hb] at b2
  have p0 : W.cell? ⟨a, 0, none⟩ = some (.slice x.on n x.cn) := cell_of_blk b1 0
  have p1 : W.cell? ⟨a, 1, none⟩ = some (.slice x.ob m x.cb) := cell_of_blk b1 1
  have q0 : W.cell? ⟨b, 0, none⟩ = some (.slice y.on n y.cn) := cell_of_blk b2 0
  have q1 : W.cell? ⟨b, 1, none⟩ = some (.slice y.ob m y.cb) := cell_of_blk b2 1
  clear hx hy hn hl h1 h2 hnn hmm e1 e2 b1 b2
  go_enter Try.func28, Try.ntmps28
  go_wp2_with fail
  rw [← hW, ← ha, ← hb]
  clear hW ha hb
  refine (sameS_any W x.on n x.cn y.on n y.cn x.nm y.nm HN.out.2 (by rw [← HN.out.1]; exact HN.out.2) (by have := HN.out.2; omega) (by rw [← HN.out.1]; have := HN.out.2; omega) (HX.out.names.sl.keepsN K0.out) (HY.out.names.sl.keepsN K0.out)).mono ?_
  rintro e w2 ⟨⟨B, rfl, hB⟩, hk2⟩
  obtain rfl : B = true := hB.out.2 HN.out.1
  have p2 := hk2.cellN p1
  have q2 := hk2.cellN q1
  have K2 : Hid (Keeps no w w2) := K0.out.trans hk2
  clear hB hk2 p0 p1 q0 q1 K0
  go_wp2_with fail
  go_loopw [5] (fun i wr => ∃ k : Nat, k ≤ m ∧ i = .int .i64 k ∧ Hid (Keeps no w2 wr)) (fun i _ => m - (intOf i).toNat)
  case atStart => exact ⟨0, by omega, rfl, Keeps.refl _ _⟩
  case round =>
    obtain ⟨k, hk, rfl, KR⟩ := hrel
    have p2 := KR.out.cellN p2
    have q2 := KR.out.cellN q2
    have K3 : Hid (Keeps no w wr) := K2.out.trans KR.out
    by_cases hlt : k < m
    · have hkx : k < x.ls.length := by have := HL.out.2; omega
      have hll := congrArg List.length HL.out.1
      simp at hll
      have hky : k < y.ls.length := by omega
      obtain ⟨b3, f3, e3, c3⟩ := rowX_at (HX.out.bytes.row.keepsN K3.out) hkx
      obtain ⟨b4, f4, e4, c4⟩ := rowX_at (HY.out.bytes.row.keepsN K3.out) hky
      have hxy : (x.ls.getD k ls0).xs = (y.ls.getD k ls0).xs := by
        have h1 := congrArg (fun l => l.getD k []) HL.out.1
        simpa [hkx, hky, List.getD_eq_getElem?_getD] using h1
      have hX := (HX.out.each (x.ls.getD k ls0) (by rw [List.getD_eq_getElem?_getD, List.getElem?_eq_getElem hkx]; exact List.getElem_mem hkx)).row.keepsN K3.out
      have hY := (HY.out.each (y.ls.getD k ls0) (by rw [List.getD_eq_getElem?_getD, List.getElem?_eq_getElem hky]; exact List.getElem_mem hky)).row.keepsN K3.out
      obtain ⟨X, hXX⟩ : ∃ X, X = x.ls.getD k ls0 := ⟨_, rfl⟩
      obtain ⟨Y, hYY⟩ : ∃ Y, Y = y.ls.getD k ls0 := ⟨_, rfl⟩
      rw [← hXX] at c3 hX hxy
      rw [← hYY] at c4 hY hxy
      rw [← hxy] at c4 hY
      obtain ⟨nX, hnX⟩ : ∃ nX, nX = X.xs.length := ⟨_, rfl⟩
      rw [← hnX] at c3 c4
      have HNX : Hid (nX = X.xs.length) := hnX
      have HRX : Hid (Row BE wr X.o X.xs) := hX
      have HRY : Hid (Row BE wr Y.o X.xs) := hY
      rw [e3] at p2
      rw [e4] at q2
      clear hX hY hxy hXX hYY hnX hkx hky hll e3 e4
      go_wp2_with fail
      go_quiet ((go_at_call 19; refine Calls.quiet_of_same (same_yes _ X.o nX X.c Y.o nX Y.c X.xs HNX.out HNX.out ?_ ?_); exact HRX.out.keepsN ((Keeps.refl no wr).drewN _); exact HRY.out.keepsN ((Keeps.refl no wr).drewN _)))
      go_wp2_with fail
      go_roundw
      case rel => exact ⟨k + 1, by omega, by go_num, KR.out.drewN _⟩
      case measure => simp [intOf]; omega
    · go_wp2_with fail
      go_ret
      exact ⟨rfl, K3.out⟩
end Go.Proofs.Ytgobakfffobpkaa
