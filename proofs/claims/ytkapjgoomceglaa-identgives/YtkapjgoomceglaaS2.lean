/- The document's sources: Of, Next, Last, Left. -/
import Derived.Test.YtkapjgoomceglaaS1
namespace Go.Proofs.Ytkapjgoomceglaa
open Go.RowKit
set_option linter.unusedVariables false
set_option linter.unusedSimpArgs false

theorem refLast_any (w : World) (a : Nat) (c n l : Int) (h : IsS 61 w a c n l) :
    Calls Try.prog 18 #[.pointer (some ⟨a, 0, none⟩)] w fun e w' => e = .returned (.int .u64 l) ∧ w' = w := by
  have c2 : w.cell? ⟨a, 2, none⟩ = some (.int .u64 l) := cell_of_blk h.blk 2
  go_enter Try.func18, Try.ntmps18
  go_wp2
  go_ret
  exact ⟨rfl, rfl⟩
theorem refLeft_any (w : World) (a : Nat) (c n l : Int) (h : IsS 61 w a c n l) :
    Calls Try.prog 19 #[.pointer (some ⟨a, 0, none⟩)] w fun e w' => e = .returned (.int .u64 (281474976710656 - n)) ∧ w' = w := by
  have c1 : w.cell? ⟨a, 1, none⟩ = some (.int .u64 n) := cell_of_blk h.blk 1
  have h1 := h.n0
  have h2 := h.n1
  go_enter Try.func19, Try.ntmps19
  go_wp2
  go_ret
  exact ⟨rfl, rfl⟩
theorem refNext_no (w : World) (a : Nat) (c l : Int) (h : IsS 61 w a c 281474976710656 l) :
    Calls Try.prog 17 #[.pointer (some ⟨a, 0, none⟩)] w fun e w' => e = .returned (.tuple #[.int .u64 0, .int .i64 30]) ∧ w' = w := by
  have c1 : w.cell? ⟨a, 1, none⟩ = some (.int .u64 281474976710656) := cell_of_blk h.blk 1
  go_enter Try.func17, Try.ntmps17
  go_wp2
  go_ret2
  exact ⟨rfl, rfl⟩
theorem refNext_yes (w : World) (a : Nat) (c n l : Int) (h : IsS 61 w a c n l) (hn : n ≤ 281474976710655) :
    Calls Try.prog 17 #[.pointer (some ⟨a, 0, none⟩)] w fun e w' => e = .returned (.tuple #[.int .u64 (nam n c), .int .i64 0]) ∧ IsS 61 w' a c (n + 1) (nam n c) ∧ Keeps (fun k => k = a) w w' := by
  have h1 := h.n0
  have h3 := h.c0
  have h4 := h.c1
  have HR : Hid (Right n c) := ⟨h1, hn, h3, h4⟩
  have q0 : w.cell? ⟨a, 0, none⟩ = some (.int .i64 c) := cell_of_blk h.blk 0
  have q1 : w.cell? ⟨a, 1, none⟩ = some (.int .u64 n) := cell_of_blk h.blk 1
  have q2 : w.cell? ⟨a, 2, none⟩ = some (.int .u64 l) := cell_of_blk h.blk 2
  have f1 : w.frozen? ⟨a, 1, none⟩ = false := frozen_of_blk h.blk 1
  have f2 : w.frozen? ⟨a, 2, none⟩ = false := frozen_of_blk h.blk 2
  go_enter Try.func17, Try.ntmps17
  go_wp2_with fail
  go_region_with (go_at_call 14; go_must (refine (refMake_yes _ n c HR.out).mono ?_); rintro e w2 ⟨rfl, rfl⟩)
  all_goals go_wp2
  all_goals go_ret2
  all_goals refine ⟨rfl, ⟨?_, h3, h4, by omega, by omega, by unfold nam; omega, by unfold nam; omega⟩, ?_⟩
  all_goals first
    | exact blk_set (w := (World.setCell w ⟨a, 2, none⟩ (.int .u64 (nam n c))).drew) (blk_set h.blk 2 (.int .u64 (nam n c))) 1 (.int .u64 (n + 1))
    | exact (keeps_set w a 2 (.int .u64 (nam n c))).drew.trans (keeps_set _ a 1 (.int .u64 (n + 1)))

theorem refOf_yes (w : World) (c f : Int) (h1 : 0 ≤ c) (h2 : c ≤ 65535) (h3 : 0 ≤ f) (h4 : f ≤ 281474976710655) :
    Calls Try.prog 16 #[.int .i64 c, .int .u64 f] w fun e w' => e = .returned (.tuple #[.pointer (some ⟨w.heap.size, 0, none⟩), .int .i64 0]) ∧ IsS 61 w' w.heap.size c (max f 1) 0 ∧ Keeps (fun _ => False) w w' := by
  have n1 : ¬ c < 0 := by omega
  have n2 : ¬ 65535 < c := by omega
  have n3 : ¬ 281474976710655 < f := by omega
  by_cases hf : f = 0
  · subst hf
    go_enter Try.func16, Try.ntmps16
    go_wp2
    go_ret2
    exact ⟨rfl, ⟨blk_new _ _, h1, h2, by omega, by omega, by omega, by omega⟩, (Keeps.refl _ _).alloc _⟩
  · have n4 : (f == 0) = false := by simpa using hf
    have n5 : max f 1 = f := by omega
    rw [n5]
    clear n5
    go_enter Try.func16, Try.ntmps16
    go_wp2
    go_ret2
    exact ⟨rfl, ⟨blk_new _ _, h1, h2, by omega, by omega, by omega, by omega⟩, (Keeps.refl _ _).alloc _⟩
theorem refOf_no (w : World) (c f : Int) (h1 : -9223372036854775808 ≤ c) (h2 : c ≤ 9223372036854775807) (h3 : 0 ≤ f) (h4 : f ≤ 18446744073709551615) (h : ¬ (0 ≤ c ∧ c ≤ 65535 ∧ f ≤ 281474976710655)) :
    Calls Try.prog 16 #[.int .i64 c, .int .u64 f] w fun e w' => e = .returned (.tuple #[.pointer none, .int .i64 1]) ∧ w' = w := by
  by_cases a : c < 0
  · clear h
    go_enter Try.func16, Try.ntmps16
    go_wp2
    go_ret2
    exact ⟨rfl, rfl⟩
  by_cases b : 65535 < c
  · clear h
    go_enter Try.func16, Try.ntmps16
    go_wp2
    go_ret2
    exact ⟨rfl, rfl⟩
  have d : 281474976710655 < f := by omega
  clear h
  go_enter Try.func16, Try.ntmps16
  go_wp2
  go_ret2
  exact ⟨rfl, rfl⟩
end Go.Proofs.Ytkapjgoomceglaa
