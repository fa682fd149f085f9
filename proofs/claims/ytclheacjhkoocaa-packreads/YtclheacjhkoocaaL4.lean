import Derived.Test.YtclheacjhkoocaaL3
import Derived.Test.YtclheacjhkoocaaC1
namespace Go.Proofs.Ytclheacjhkoocaa
open Go.RowKit
open Pk
set_option linter.unusedVariables false
set_option linter.unusedSimpArgs false

set_option maxRecDepth 10000 in
set_option maxHeartbeats 2000000 in
theorem read_any (w : World) (a1 : Nat) (o1 : Option Addr) (c1 : Nat) (a2 : Nat) (o2 : Option Addr) (c2 : Nat) (bs : List Nat) (e0 : Nat) (p : OpV) (hn1 : -9223372036854775808 ≤ p.N) (hn2 : p.N ≤ 9223372036854775807) (hm1 : -9223372036854775808 ≤ p.M) (hm2 : p.M ≤ 9223372036854775807) (h1 : IsR 68 w a1 o1 c1 bs e0) (h2 : IsR 87 w a2 o2 c2 bs e0) (hd1 : ¬ footW a2 o2 a1) (hd2 : ¬ footW a1 o1 a2) :
    Calls Try.prog 34 #[.pointer (some ⟨a1, 0, none⟩), .pointer (some ⟨a2, 0, none⟩), .agg p.cells] w fun e w' => e = .returned (.bool true) ∧ RStep2 w a1 o1 a2 o2 (p.rst (bs, e0)) w' := by
  obtain ⟨kind, v, s, ol, cl, ss, N, M⟩ := p
  simp only [OpV.cells] at *
  have hkb : Keeps (fun _ => False) w (w.alloc (.cells #[.int .i64 kind, .int .u64 (v : Nat), .string s, .slice ol ss.length cl, .int .i64 N, .int .i64 M] 34)) := (Keeps.refl _ _).alloc _
  have hR1 := h1.keeps hkb (fun _ _ h => h)
  have hR2 := h2.keeps hkb (fun _ _ h => h)
  have hne1 : w.heap.size ≠ a1 := fun e => by have := lt_of_block h1.blk; omega
  by_cases q1 : kind = 1
  · subst q1
    go_enter Try.func34, Try.ntmps34
    go_wp2_with fail
    refine (rU8_any _ a1 o1 c1 bs e0 hR1).mono ?_
    rintro e w1 ⟨rfl, hst1⟩
    have hR2' : IsR 87 w1 a2 o2 c2 bs e0 := by obtain ⟨_, _, _, _, hk⟩ := hst1; exact hR2.keeps hk (fun k hf e => hd1 (e ▸ hf))
    go_wp2_with fail
    refine (refRU8_any _ a2 o2 c2 bs e0 hR2').mono ?_
    rintro e w2 ⟨rfl, hst2⟩
    go_wp2
    go_ret
    exact ⟨by simp, rstep2_of (c2 := c2) (bs := bs) (e0 := e0) hkb hd1 hd2 hst1 hst2⟩
  by_cases q2 : kind = 2
  · subst q2
    go_enter Try.func34, Try.ntmps34
    go_wp2_with fail
    refine (rU32_any _ a1 o1 c1 bs e0 hR1).mono ?_
    rintro e w1 ⟨rfl, hst1⟩
    have hR2' : IsR 87 w1 a2 o2 c2 bs e0 := by obtain ⟨_, _, _, _, hk⟩ := hst1; exact hR2.keeps hk (fun k hf e => hd1 (e ▸ hf))
    go_wp2_with fail
    refine (refRU32_any _ a2 o2 c2 bs e0 hR2').mono ?_
    rintro e w2 ⟨rfl, hst2⟩
    go_wp2
    go_ret
    exact ⟨by simp, rstep2_of (c2 := c2) (bs := bs) (e0 := e0) hkb hd1 hd2 hst1 hst2⟩
  by_cases q3 : kind = 3
  · subst q3
    go_enter Try.func34, Try.ntmps34
    go_wp2_with fail
    refine (rU64_any _ a1 o1 c1 bs e0 hR1).mono ?_
    rintro e w1 ⟨rfl, hst1⟩
    have hR2' : IsR 87 w1 a2 o2 c2 bs e0 := by obtain ⟨_, _, _, _, hk⟩ := hst1; exact hR2.keeps hk (fun k hf e => hd1 (e ▸ hf))
    go_wp2_with fail
    refine (refRU64_any _ a2 o2 c2 bs e0 hR2').mono ?_
    rintro e w2 ⟨rfl, hst2⟩
    go_wp2
    go_ret
    exact ⟨by simp, rstep2_of (c2 := c2) (bs := bs) (e0 := e0) hkb hd1 hd2 hst1 hst2⟩
  by_cases q4 : kind = 4
  · subst q4
    generalize hwa : (w.alloc (.cells #[.int .i64 4, .int .u64 (v : Nat), .string s, .slice ol ss.length cl, .int .i64 N, .int .i64 M] 34)) = wa at hkb hR1 hR2
    have hblk : wa.heap[w.heap.size]? = some (.cells #[.int .i64 4, .int .u64 (v : Nat), .string s, .slice ol ss.length cl, .int .i64 N, .int .i64 M] 34 (0, 0)) := by rw [← hwa]; exact blk_new _ _
    have d0 : wa.cell? ⟨w.heap.size, 0, none⟩ = some (.int .i64 4) := cell_of_blk hblk 0
    have d4 : wa.cell? ⟨w.heap.size, 4, none⟩ = some (.int .i64 N) := cell_of_blk hblk 4
    go_enter Try.func34, Try.ntmps34
    go_wp2_with fail
    clear hwa
    go_region_with (first
      | (go_at_call 23; go_must (refine (rText_any _ a1 o1 c1 bs e0 N hn1 hn2 ?_).mono ?_); exact hR1.drewN 1; rintro e w1 ⟨rfl, hst1⟩; have hk1 : Keeps (fun k => k = a1) wa w1 := (by obtain ⟨_, _, _, _, hk⟩ := hst1; exact (keeps_drewN _ wa 1).trans hk); have d4' : w1.cell? ⟨w.heap.size, 4, none⟩ = some (.int .i64 N) := hk1.cell d4 hne1)
      | (go_at_call 59; go_must (refine (refRText_any _ a2 o2 c2 bs e0 N hn1 hn2 ?_).mono ?_); exact hR2.keeps hk1 (fun k hf e => hd1 (e ▸ hf)); rintro e w2 ⟨rfl, hst2⟩))
    all_goals go_wp2
    all_goals go_ret
    all_goals exact ⟨rfl, rstep2_of (wa := wa.drewN 1) (c2 := c2) (bs := bs) (e0 := e0) (hkb.trans (keeps_drewN _ _ _)) hd1 hd2 hst1 hst2⟩
  by_cases q5 : kind = 5
  · subst q5
    exact read_texts w a1 o1 c1 a2 o2 c2 bs e0 v s ol ss.length cl N M hn1 hn2 hm1 hm2 h1 h2 hd1 hd2
  by_cases q6 : kind = 6
  · subst q6
    generalize hwa : (w.alloc (.cells #[.int .i64 6, .int .u64 (v : Nat), .string s, .slice ol ss.length cl, .int .i64 N, .int .i64 M] 34)) = wa at hkb hR1 hR2
    have hblk : wa.heap[w.heap.size]? = some (.cells #[.int .i64 6, .int .u64 (v : Nat), .string s, .slice ol ss.length cl, .int .i64 N, .int .i64 M] 34 (0, 0)) := by rw [← hwa]; exact blk_new _ _
    have d0 : wa.cell? ⟨w.heap.size, 0, none⟩ = some (.int .i64 6) := cell_of_blk hblk 0
    have d4 : wa.cell? ⟨w.heap.size, 4, none⟩ = some (.int .i64 N) := cell_of_blk hblk 4
    go_enter Try.func34, Try.ntmps34
    go_wp2_with fail
    clear hwa
    go_region_with (first
      | (go_at_call 25; go_must (refine (rCount_any _ a1 o1 c1 bs e0 N hn1 hn2 ?_).mono ?_); exact hR1.drewN 1; rintro e w1 ⟨rfl, hst1⟩; have hk1 : Keeps (fun k => k = a1) wa w1 := (by obtain ⟨_, _, _, _, hk⟩ := hst1; exact (keeps_drewN _ wa 1).trans hk); have d4' : w1.cell? ⟨w.heap.size, 4, none⟩ = some (.int .i64 N) := hk1.cell d4 hne1)
      | (go_at_call 61; go_must (refine (refRCount_any _ a2 o2 c2 bs e0 N hn1 hn2 ?_).mono ?_); exact hR2.keeps hk1 (fun k hf e => hd1 (e ▸ hf)); rintro e w2 ⟨rfl, hst2⟩))
    all_goals go_wp2
    all_goals go_ret
    all_goals exact ⟨rfl, rstep2_of (wa := wa.drewN 1) (c2 := c2) (bs := bs) (e0 := e0) (hkb.trans (keeps_drewN _ _ _)) hd1 hd2 hst1 hst2⟩
  · go_enter Try.func34, Try.ntmps34
    go_wp2
    go_ret
    refine ⟨rfl, ?_⟩
    have e : OpV.rst ⟨kind, v, s, ol, cl, ss, N, M⟩ (bs, e0) = (bs, e0) := by simp [OpV.rst, q1, q2, q3, q4, q5, q6]
    rw [e]
    exact ⟨o1, c1, o2, c2, hR1, hR2, SubO.refl _, SubO.refl _, hkb.mono (fun _ h => h.elim)⟩
end Go.Proofs.Ytclheacjhkoocaa
