import Derived.Test.YtclheacjhkoocaaL3a
namespace Go.Proofs.Ytclheacjhkoocaa
open Go.RowKit
open Pk
set_option linter.unusedVariables false

set_option maxRecDepth 10000 in
set_option maxHeartbeats 0 in
theorem read_texts (w : World) (a1 : Nat) (o1 : Option Addr) (c1 : Nat) (a2 : Nat) (o2 : Option Addr) (c2 : Nat) (bs : List Nat) (e0 : Nat) (v : Nat) (s : ByteArray) (ol : Option Addr) (n cl : Nat) (N M : Int) (hn1 : -9223372036854775808 ≤ N) (hn2 : N ≤ 9223372036854775807) (hm1 : -9223372036854775808 ≤ M) (hm2 : M ≤ 9223372036854775807) (h1 : IsR 68 w a1 o1 c1 bs e0) (h2 : IsR 87 w a2 o2 c2 bs e0) (hd1 : ¬ footW a2 o2 a1) (hd2 : ¬ footW a1 o1 a2) :
    Calls Try.prog 34 #[.pointer (some ⟨a1, 0, none⟩), .pointer (some ⟨a2, 0, none⟩), .agg #[.int .i64 5, .int .u64 (v : Nat), .string s, .slice ol n cl, .int .i64 N, .int .i64 M]] w fun e w' => e = .returned (.bool true) ∧ RStep2 w a1 o1 a2 o2 (rtexts N M (bs, e0)).2 w' := by
  have hkb : Keeps (fun _ => False) w (w.alloc (.cells #[.int .i64 5, .int .u64 (v : Nat), .string s, .slice ol n cl, .int .i64 N, .int .i64 M] 34)) := (Keeps.refl _ _).alloc _
  have hR1 := h1.keeps hkb (fun _ _ h => h)
  have hR2 := h2.keeps hkb (fun _ _ h => h)
  have hne1 : w.heap.size ≠ a1 := fun e => by have := lt_of_block h1.blk; omega
  generalize hwa : (w.alloc (.cells #[.int .i64 5, .int .u64 (v : Nat), .string s, .slice ol n cl, .int .i64 N, .int .i64 M] 34)) = wa at hkb hR1 hR2
  have hblk : wa.heap[w.heap.size]? = some (.cells #[.int .i64 5, .int .u64 (v : Nat), .string s, .slice ol n cl, .int .i64 N, .int .i64 M] 34 (0, 0)) := by rw [← hwa]; exact blk_new _ _
  have d0 : wa.cell? ⟨w.heap.size, 0, none⟩ = some (.int .i64 5) := cell_of_blk hblk 0
  have d4 : wa.cell? ⟨w.heap.size, 4, none⟩ = some (.int .i64 N) := cell_of_blk hblk 4
  have d5 : wa.cell? ⟨w.heap.size, 5, none⟩ = some (.int .i64 M) := cell_of_blk hblk 5
  go_enter Try.func34, Try.ntmps34
  go_wp2_with fail
  clear hwa d0 h1 h2 hblk
  go_region_with (first
    | (go_at_call 24; go_must (refine (rTexts_any _ a1 o1 c1 bs e0 N M hn1 hn2 hm1 hm2 ?_).mono ?_); exact hR1.drewN 1; rintro e w1 ⟨⟨oS, cS, nS, rfl, hnS, hnS5, hownS, hnewS, HBS⟩, hst1⟩; have hk1 : Keeps (fun k => k = a1) wa w1 := (by obtain ⟨_, _, _, _, hk⟩ := hst1; exact (keeps_drewN _ wa 1).trans hk); have d4' : w1.cell? ⟨w.heap.size, 4, none⟩ = some (.int .i64 N) := hk1.cell d4 hne1; have d5' : w1.cell? ⟨w.heap.size, 5, none⟩ = some (.int .i64 M) := hk1.cell d5 hne1)
    | (go_at_call 60; go_must (refine (refRTexts_any _ a2 o2 c2 bs e0 N M hn1 hn2 hm1 hm2 ?_).mono ?_); exact hR2.keeps hk1 (fun k hf e => hd1 (e ▸ hf)); rintro e w2 ⟨⟨oT, cT, nT, rfl, hnT, hnT5, hownT, hnewT, HBT⟩, hst2⟩)
    | (go_at_call 13; go_must (refine (sameTexts_any _ oS nS cS oT nT cT ((rtexts N M (bs, e0)).1.map text) ((rtexts N M (bs, e0)).1.map text) ?_ ?_ ?_ ?_ ?_ ?_).mono ?_; exact (texts_len hnS.out); exact (texts_len hnT.out); exact (texts_le hnS5); exact (texts_le hnT5); exact (texts_row2 hR2 hst2 hownS hnewS); exact hownT.row; rintro e w3 ⟨⟨B, rfl, hB⟩, hk3⟩; obtain rfl : B = true := hB.out rfl)))
  all_goals go_wp2
  all_goals go_ret
  all_goals exact ⟨rfl, rstep2_then (rstep2_of (wa := wa.drewN 1) (c2 := c2) (bs := bs) (e0 := e0) (hkb.trans (keeps_drewN _ _ _)) hd1 hd2 hst1 hst2) hk3⟩
end Go.Proofs.Ytclheacjhkoocaa
