/- A question made; the second round's questions. -/
import Derived.Test.YtghnhkhhpeoheaaGreatZ2
import Derived.Deep.RegionHeld3
namespace Go.Proofs.YtghnhkhhpeoheaaGreat
open Go.RowKit Go.Sort Orl
set_option linter.unusedVariables false
set_option linter.unusedSimpArgs false

theorem quest_size (a b c d e f g h i j : Value) : (Tryz.prog.info? 77).map (·.size) = some (#[a, b, c, d, e, f, g, h, i, j] : Array Value).size := by
  show _ = some 10
  kernel_rfl
def aggZ (r : RZ) : Value := .agg #[.int .i64 r.q.part, .int .i64 r.q.kind, .int .i64 r.q.client, .int .u64 (r.q.req : Nat), .int .u64 (r.q.id : Nat), .slice r.q.po r.q.pn r.q.pc, .slice r.q.ko r.q.kn r.q.kc, .slice r.q.wo 0 r.q.wc, .slice r.q.vo 0 r.q.vc, .bool r.ans]
set_option maxRecDepth 10000 in
set_option maxHeartbeats 1000000 in
theorem quest_any (w : World) (p id : Nat) (part k : Int) (po ko : Option Addr) (pn pc kn kc : Nat) (hc : w.cell? ⟨p, 0, none⟩ = some (.int .u64 (id : Nat))) (hid : id < 18446744073709551616) :
    Calls Tryz.prog 28 #[.pointer (some ⟨p, 0, none⟩), .int .i64 part, .agg #[.int .i64 k, .int .i64 0, .int .u64 0, .int .u64 0, .slice po pn pc, .slice ko kn kc, .slice none 0 0, .slice none 0 0]] w fun e w' => e = .returned (aggZ ⟨⟨part, k, ((id % 65536 : Nat) : Int), 0, id, po, pn, pc, ko, kn, kc, none, 0, none, 0⟩, false⟩) ∧ Keeps no w w' := by
  unfold aggZ
  simp only
  obtain ⟨B, hB⟩ : ∃ B, B = w.heap.size := ⟨_, rfl⟩
  have hpB : p < B := by rw [hB]; exact World.block_lt_of_cell? w _ hc
  have hne : ¬ B = p := by omega
  have hne2 : ¬ p = B := by omega
  obtain ⟨K, hK⟩ : ∃ K, K = id % 65536 := ⟨_, rfl⟩
  have hrem : ((id : Nat) : Int) % 65536 = (K : Int) := by omega
  have hcv : IntKind.i64.wrap (K : Int) = (K : Int) := by rw [IntKind.wrap_i64]; omega
  rw [← hK]
  have HID : Hid (id < 18446744073709551616) := hid
  clear hK hid
  have H2 := two_blk w (.cells #[.int .i64 k, .int .i64 0, .int .u64 0, .int .u64 0, .slice po pn pc, .slice ko kn kc, .slice none 0 0, .slice none 0 0] 45) (.cells #[.int .i64 0, .int .i64 0, .int .i64 0, .int .u64 0, .int .u64 0, .slice none 0 0, .slice none 0 0, .slice none 0 0, .slice none 0 0, .bool false] 77)
  have hk2 : Keeps no w ((w.alloc (.cells #[.int .i64 k, .int .i64 0, .int .u64 0, .int .u64 0, .slice po pn pc, .slice ko kn kc, .slice none 0 0, .slice none 0 0] 45)).alloc (.cells #[.int .i64 0, .int .i64 0, .int .i64 0, .int .u64 0, .int .u64 0, .slice none 0 0, .slice none 0 0, .slice none 0 0, .slice none 0 0, .bool false] 77)) := ((Keeps.refl _ _).alloc _).alloc _
  have HH : Hid (B = w.heap.size) := hB
  rw [← hB] at H2
  go_enter Tryz.func28, Tryz.ntmps28
  go_upto_region 1 with fail
  rw [← hB]
  clear hB
  generalize (w.alloc (.cells #[.int .i64 k, .int .i64 0, .int .u64 0, .int .u64 0, .slice po pn pc, .slice ko kn kc, .slice none 0 0, .slice none 0 0] 45)).alloc (.cells #[.int .i64 0, .int .i64 0, .int .i64 0, .int .u64 0, .int .u64 0, .slice none 0 0, .slice none 0 0, .slice none 0 0, .slice none 0 0, .bool false] 77) = U at H2 hk2 ⊢
  have HK : Hid (Keeps no w U) := hk2
  have cp := hk2.cellN hc
  obtain ⟨hb1, hb2⟩ := H2
  have c0 := cell_of_blk hb1 0
  have c1 := cell_of_blk hb1 1
  have c2 := cell_of_blk hb1 2
  have c3 := cell_of_blk hb1 3
  have c4 := cell_of_blk hb1 4
  have c5 := cell_of_blk hb1 5
  have c6 := cell_of_blk hb1 6
  have c7 := cell_of_blk hb1 7
  have f1 := frozen_of_blk hb1 1
  have f3 := frozen_of_blk hb1 3
  simp only [List.getElem?_toArray, List.getElem?_cons_succ, List.getElem?_cons_zero] at c0 c1 c2 c3 c4 c5 c6 c7
  have d0 := cell_of_blk hb2 0
  have d1 := cell_of_blk hb2 1
  have d2 := cell_of_blk hb2 2
  have d3 := cell_of_blk hb2 3
  have d4 := cell_of_blk hb2 4
  have d5 := cell_of_blk hb2 5
  have d6 := cell_of_blk hb2 6
  have d7 := cell_of_blk hb2 7
  have d8 := cell_of_blk hb2 8
  have d9 := cell_of_blk hb2 9
  have g0 := frozen_of_blk hb2 0
  have g1 := frozen_of_blk hb2 1
  have g2 := frozen_of_blk hb2 2
  have g3 := frozen_of_blk hb2 3
  have g4 := frozen_of_blk hb2 4
  have g5 := frozen_of_blk hb2 5
  have g6 := frozen_of_blk hb2 6
  have g7 := frozen_of_blk hb2 7
  have g8 := frozen_of_blk hb2 8
  have g9 := frozen_of_blk hb2 9
  simp only [List.getElem?_toArray, List.getElem?_cons_succ, List.getElem?_cons_zero] at d0 d1 d2 d3 d4 d5 d6 d7 d8 d9
  have HE : Hid (∀ vs : List Value, vs.length = 10 → ∀ V u1 u3, Keeps no U V → Keeps no V U → ∀ W, W = (((V.setCell ⟨B, 1, none⟩ u1).setCell ⟨B, 3, none⟩ u3).setCells (B + 1) 0 vs).drew → W.heap[B + 1]? = some (.cells vs.toArray 77 (0, 0)) ∧ Keeps no w W) := by
    rintro vs hvs V u1 u3 hV _ W rfl
    have hx := blk_set_ne (blk_set_ne (hV.at hb2 (fun h => h)) (p := ⟨B, 1, none⟩) (show B + 1 ≠ B by omega) u1) (p := ⟨B, 3, none⟩) (show B + 1 ≠ B by omega) u3
    refine ⟨blk_whole hx _ hvs.symm, (keeps_setCells' _ _ (((HK.out.trans hV).setCell (.inr ?_) _).setCell (.inr ?_) _) (.inr ?_)).drew⟩
    all_goals (have := HH.out; show _ ≤ _; (try simp only); omega)
  clear hb1 hb2 hk2 hc hpB
  go_region
  all_goals
    go_wp2_with fail
    have hE := HE.out [.int .i64 part, .int .i64 k, .int .i64 (K : Nat), .int .u64 0, .int .u64 (id : Nat), .slice po pn pc, .slice ko kn kc, .slice none 0 0, .slice none 0 0, .bool false] rfl U (.int .i64 (K : Nat)) (.int .u64 (id : Nat)) (Keeps.refl _ _) (Keeps.refl _ _) _ rfl
    (try simp only [Exit.inBlock, Exit.then])
    refine bodyPost_ret (results_row1 rfl _ _ (B + 1) _ rfl (run_loadVar_row _ _ _ _ _ _ _ hE.1 Tryz.underlying77 rfl (quest_size _ _ _ _ _ _ _ _ _ _))) rfl ?_
    exact ⟨rfl, hE.2⟩
end Go.Proofs.YtghnhkhhpeoheaaGreat
