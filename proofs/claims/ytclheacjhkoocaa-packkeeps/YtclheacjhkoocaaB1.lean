import Derived.Test.YtclheacjhkoocaaP3
import Derived.Test.YtclheacjhkoocaaBk
namespace Go.Proofs.Ytclheacjhkoocaa
open Go.RowKit
open Pk
set_option linter.unusedVariables false
set_option linter.unusedSimpArgs false

/-- what a call of 'reads' leaves of a reader -/
def OpV.bst (p : OpV) (st : RS) : RS :=
  if p.kind = 1 then (rnum 1 st).2 else if p.kind = 2 then (rnum 4 st).2 else if p.kind = 3 then (rnum 8 st).2 else if p.kind = 4 then (rtext (p.s.size : Nat) st).2 else if p.kind = 5 then (rtexts (p.ss.length : Nat) (maxL (natss p.ss) : Nat) st).2 else st

structure OpV.small (p : OpV) : Prop where
  s : p.s.size < 4294967296
  l : p.ss.length < 4294967296
  ss : ∀ s ∈ p.ss, s.size < 4294967296

set_option maxRecDepth 10000 in
set_option maxHeartbeats 2000000 in
theorem reads_num (w : World) (a : Nat) (o : Option Addr) (c : Nat) (bs : List Nat) (e0 : Nat) (p : OpV) (hp : p.ok w) (hq : p.kind = 1 ∨ p.kind = 2 ∨ p.kind = 3) (h : IsR 68 w a o c bs e0) :
    Calls Try.prog 26 #[.pointer (some ⟨a, 0, none⟩), .agg p.cells] w fun e w' => (∃ B : Bool, e = .returned (.bool B) ∧ (∀ t, bs = p.news ++ t → e0 = 0 → B = true)) ∧ RStep 68 w a o (p.bst (bs, e0)) w' := by
  obtain ⟨kind, v, s, ol, cl, ss, N, M⟩ := p
  simp only [OpV.cells] at *
  have hv1 := hp.v1
  simp only at hv1
  have hkb : Keeps (fun _ => False) w (w.alloc (.cells #[.int .i64 kind, .int .u64 (v : Nat), .string s, .slice ol ss.length cl, .int .i64 N, .int .i64 M] 34)) := (Keeps.refl _ _).alloc _
  have hR := h.keeps hkb (fun _ _ h => h)
  have hne1 : w.heap.size ≠ a := fun e => by have := lt_of_block h.blk; omega
  rcases hq with rfl | rfl | rfl
  · generalize hwa : (w.alloc (.cells #[.int .i64 1, .int .u64 (v : Nat), .string s, .slice ol ss.length cl, .int .i64 N, .int .i64 M] 34)) = wa at hkb hR
    have hblk : wa.heap[w.heap.size]? = some (.cells #[.int .i64 1, .int .u64 (v : Nat), .string s, .slice ol ss.length cl, .int .i64 N, .int .i64 M] 34 (0, 0)) := by rw [← hwa]; exact blk_new _ _
    have d0 : wa.cell? ⟨w.heap.size, 0, none⟩ = some (.int .i64 1) := cell_of_blk hblk 0
    have d1 : wa.cell? ⟨w.heap.size, 1, none⟩ = some (.int .u64 (v : Nat)) := cell_of_blk hblk 1
    have HE : Hid (∀ t, bs = num 1 v ++ t → e0 = 0 → (((rnum 1 (bs, e0)).1 : Nat) : Int) = (v : Int) % 256) := by
      intro t h1 h2
      subst h1 h2
      rw [rnum_full]
      simp
      try omega
    go_enter Try.func26, Try.ntmps26
    go_wp2_with fail
    clear hwa d0 hblk
    go_region_with (go_at_call 11; go_must (refine (rU8_any _ a o c bs e0 ?_).mono ?_); exact hR.drewN 1; rintro e w1 ⟨rfl, hst1⟩; have hk1 : Keeps (fun k => k = a) wa w1 := (by obtain ⟨_, _, _, _, hk⟩ := hst1; exact (keeps_drewN _ wa 1).trans hk); have d1' : w1.cell? ⟨w.heap.size, 1, none⟩ = some (.int .u64 (v : Nat)) := hk1.cell d1 hne1)
    all_goals go_wp2
    all_goals go_ret
    all_goals refine ⟨⟨((((rnum 1 (bs, e0)).1 : Nat) : Int) == (v : Int) % 256), rfl, fun t h1 h2 => ?_⟩, rstep_after hkb (rstep_after (keeps_drewN _ wa 1) hst1)⟩
    all_goals exact beq_iff_eq.mpr (HE.out t h1 h2)
  · generalize hwa : (w.alloc (.cells #[.int .i64 2, .int .u64 (v : Nat), .string s, .slice ol ss.length cl, .int .i64 N, .int .i64 M] 34)) = wa at hkb hR
    have hblk : wa.heap[w.heap.size]? = some (.cells #[.int .i64 2, .int .u64 (v : Nat), .string s, .slice ol ss.length cl, .int .i64 N, .int .i64 M] 34 (0, 0)) := by rw [← hwa]; exact blk_new _ _
    have d0 : wa.cell? ⟨w.heap.size, 0, none⟩ = some (.int .i64 2) := cell_of_blk hblk 0
    have d1 : wa.cell? ⟨w.heap.size, 1, none⟩ = some (.int .u64 (v : Nat)) := cell_of_blk hblk 1
    have HE : Hid (∀ t, bs = num 4 v ++ t → e0 = 0 → (((rnum 4 (bs, e0)).1 : Nat) : Int) = (v : Int) % 4294967296) := by
      intro t h1 h2
      subst h1 h2
      rw [rnum_full]
      simp
      try omega
    go_enter Try.func26, Try.ntmps26
    go_wp2_with fail
    clear hwa d0 hblk
    go_region_with (go_at_call 41; go_must (refine (rU32_any _ a o c bs e0 ?_).mono ?_); exact hR.drewN 1; rintro e w1 ⟨rfl, hst1⟩; have hk1 : Keeps (fun k => k = a) wa w1 := (by obtain ⟨_, _, _, _, hk⟩ := hst1; exact (keeps_drewN _ wa 1).trans hk); have d1' : w1.cell? ⟨w.heap.size, 1, none⟩ = some (.int .u64 (v : Nat)) := hk1.cell d1 hne1)
    all_goals go_wp2
    all_goals go_ret
    all_goals refine ⟨⟨((((rnum 4 (bs, e0)).1 : Nat) : Int) == (v : Int) % 4294967296), rfl, fun t h1 h2 => ?_⟩, rstep_after hkb (rstep_after (keeps_drewN _ wa 1) hst1)⟩
    all_goals exact beq_iff_eq.mpr (HE.out t h1 h2)
  · generalize hwa : (w.alloc (.cells #[.int .i64 3, .int .u64 (v : Nat), .string s, .slice ol ss.length cl, .int .i64 N, .int .i64 M] 34)) = wa at hkb hR
    have hblk : wa.heap[w.heap.size]? = some (.cells #[.int .i64 3, .int .u64 (v : Nat), .string s, .slice ol ss.length cl, .int .i64 N, .int .i64 M] 34 (0, 0)) := by rw [← hwa]; exact blk_new _ _
    have d0 : wa.cell? ⟨w.heap.size, 0, none⟩ = some (.int .i64 3) := cell_of_blk hblk 0
    have d1 : wa.cell? ⟨w.heap.size, 1, none⟩ = some (.int .u64 (v : Nat)) := cell_of_blk hblk 1
    have HE : Hid (∀ t, bs = num 8 v ++ t → e0 = 0 → (((rnum 8 (bs, e0)).1 : Nat) : Int) = (v : Int)) := by
      intro t h1 h2
      subst h1 h2
      rw [rnum_full]
      simp
      try omega
    go_enter Try.func26, Try.ntmps26
    go_wp2_with fail
    clear hwa d0 hblk
    go_region_with (go_at_call 22; go_must (refine (rU64_any _ a o c bs e0 ?_).mono ?_); exact hR.drewN 1; rintro e w1 ⟨rfl, hst1⟩; have hk1 : Keeps (fun k => k = a) wa w1 := (by obtain ⟨_, _, _, _, hk⟩ := hst1; exact (keeps_drewN _ wa 1).trans hk); have d1' : w1.cell? ⟨w.heap.size, 1, none⟩ = some (.int .u64 (v : Nat)) := hk1.cell d1 hne1)
    all_goals go_wp2
    all_goals go_ret
    all_goals refine ⟨⟨((((rnum 8 (bs, e0)).1 : Nat) : Int) == (v : Int)), rfl, fun t h1 h2 => ?_⟩, rstep_after hkb (rstep_after (keeps_drewN _ wa 1) hst1)⟩
    all_goals exact beq_iff_eq.mpr (HE.out t h1 h2)
end Go.Proofs.Ytclheacjhkoocaa
