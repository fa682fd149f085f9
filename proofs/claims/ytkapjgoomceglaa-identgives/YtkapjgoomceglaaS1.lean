/- Sources: Of, Next, Last, Left of the program. -/
import Derived.Test.YtkapjgoomceglaaN1
namespace Go.Proofs.Ytkapjgoomceglaa
open Go.RowKit
set_option linter.unusedVariables false
set_option linter.unusedSimpArgs false

/-- a source (of type t) at block a: its client, the sequence number that comes next, the name that was given last -/
structure IsS (t : Nat) (w : World) (a : Nat) (c n l : Int) : Prop where
  blk : w.heap[a]? = some (.cells #[.int .i64 c, .int .u64 n, .int .u64 l] t (0, 0))
  c0 : 0 ≤ c
  c1 : c ≤ 65535
  n0 : 1 ≤ n
  n1 : n ≤ 281474976710656
  l0 : 0 ≤ l
  l1 : l ≤ 18446744073709551615
theorem IsS.keeps {S : Nat → Prop} {t : Nat} {w w' : World} {a : Nat} {c n l : Int} (h : IsS t w a c n l) (hk : Keeps S w w') (h1 : ¬ S a) : IsS t w' a c n l :=
  ⟨hk.at h.blk h1, h.c0, h.c1, h.n0, h.n1, h.l0, h.l1⟩
theorem IsS.lt {t : Nat} {w : World} {a : Nat} {c n l : Int} (h : IsS t w a c n l) : a < w.heap.size := lt_of_block h.blk

theorem last_any (w : World) (a : Nat) (c n l : Int) (h : IsS 59 w a c n l) :
    Calls Try.prog 13 #[.pointer (some ⟨a, 0, none⟩)] w fun e w' => e = .returned (.int .u64 l) ∧ w' = w := by
  have c2 : w.cell? ⟨a, 2, none⟩ = some (.int .u64 l) := cell_of_blk h.blk 2
  go_enter Try.func13, Try.ntmps13
  go_wp2
  go_ret
  exact ⟨rfl, rfl⟩
theorem left_any (w : World) (a : Nat) (c n l : Int) (h : IsS 59 w a c n l) :
    Calls Try.prog 11 #[.pointer (some ⟨a, 0, none⟩)] w fun e w' => e = .returned (.int .u64 (281474976710656 - n)) ∧ w' = w := by
  have c1 : w.cell? ⟨a, 1, none⟩ = some (.int .u64 n) := cell_of_blk h.blk 1
  have h1 := h.n0
  have h2 := h.n1
  go_enter Try.func11, Try.ntmps11
  go_wp2
  go_ret
  exact ⟨rfl, rfl⟩
theorem next_no (w : World) (a : Nat) (c l : Int) (h : IsS 59 w a c 281474976710656 l) :
    Calls Try.prog 12 #[.pointer (some ⟨a, 0, none⟩)] w fun e w' => e = .returned (.tuple #[.int .u64 0, .int .i64 30]) ∧ w' = w := by
  go_enter Try.func12, Try.ntmps12
  go_wp2_with fail
  refine (left_any w a c _ l h).mono ?_
  rintro e w1 ⟨rfl, rfl⟩
  go_wp2
  go_ret2
  exact ⟨rfl, rfl⟩
theorem next_yes (w : World) (a : Nat) (c n l : Int) (h : IsS 59 w a c n l) (hn : n ≤ 281474976710655) :
    Calls Try.prog 12 #[.pointer (some ⟨a, 0, none⟩)] w fun e w' => e = .returned (.tuple #[.int .u64 (nam n c), .int .i64 0]) ∧ IsS 59 w' a c (n + 1) (nam n c) ∧ Keeps (fun k => k = a) w w' := by
  have h1 := h.n0
  have h3 := h.c0
  have h4 := h.c1
  have HR : Hid (Right n c) := ⟨h1, hn, h3, h4⟩
  have q0 : w.cell? ⟨a, 0, none⟩ = some (.int .i64 c) := cell_of_blk h.blk 0
  have q1 : w.cell? ⟨a, 1, none⟩ = some (.int .u64 n) := cell_of_blk h.blk 1
  have q2 : w.cell? ⟨a, 2, none⟩ = some (.int .u64 l) := cell_of_blk h.blk 2
  have f1 : w.frozen? ⟨a, 1, none⟩ = false := frozen_of_blk h.blk 1
  have f2 : w.frozen? ⟨a, 2, none⟩ = false := frozen_of_blk h.blk 2
  have nz : ¬ (281474976710656 - n = 0) := by omega
  go_enter Try.func12, Try.ntmps12
  go_wp2_with fail
  refine (left_any w a c n l h).mono ?_
  rintro e w1 ⟨rfl, rfl⟩
  go_wp2_with fail
  go_region_with (go_at_call 22; go_must (refine (join_any _ n c HR.out).mono ?_); rintro e w2 ⟨rfl, rfl⟩)
  all_goals go_wp2
  all_goals go_ret2
  all_goals refine ⟨rfl, ⟨?_, h3, h4, by omega, by omega, by unfold nam; omega, by unfold nam; omega⟩, ?_⟩
  all_goals first
    | exact blk_set (w := (World.setCell w1 ⟨a, 2, none⟩ (.int .u64 (nam n c))).drew) (blk_set h.blk 2 (.int .u64 (nam n c))) 1 (.int .u64 (n + 1))
    | exact (keeps_set w1 a 2 (.int .u64 (nam n c))).drew.trans (keeps_set _ a 1 (.int .u64 (n + 1)))

theorem of_yes (w : World) (c f : Int) (h1 : 0 ≤ c) (h2 : c ≤ 65535) (h3 : 0 ≤ f) (h4 : f ≤ 281474976710655) :
    Calls Try.prog 10 #[.int .i64 c, .int .u64 f] w fun e w' => e = .returned (.tuple #[.pointer (some ⟨w.heap.size, 0, none⟩), .int .i64 0]) ∧ IsS 59 w' w.heap.size c (max f 1) 0 ∧ Keeps (fun _ => False) w w' := by
  go_enter Try.func10, Try.ntmps10
  go_wp2_with fail
  refine (isClient_yes w c h1 h2).mono ?_
  rintro e w1 ⟨rfl, rfl⟩
  go_wp2_with fail
  refine (isSeq_yes w1 _ ?_ ?_).mono ?_
  · omega
  · omega
  rintro e w2 ⟨rfl, rfl⟩
  go_wp2
  go_ret2
  exact ⟨rfl, ⟨blk_new _ _, h1, h2, by omega, by omega, by omega, by omega⟩, (Keeps.refl _ _).alloc _⟩

theorem of_noClient (w : World) (c f : Int) (h1 : -9223372036854775808 ≤ c) (h2 : c ≤ 9223372036854775807) (h3 : 0 ≤ f) (h4 : f ≤ 18446744073709551615) (h : ¬ (0 ≤ c ∧ c ≤ 65535)) :
    Calls Try.prog 10 #[.int .i64 c, .int .u64 f] w fun e w' => e = .returned (.tuple #[.pointer none, .int .i64 1]) ∧ w' = w := by
  go_enter Try.func10, Try.ntmps10
  go_wp2_with fail
  refine (isClient_no w c h1 h2 h).mono ?_
  rintro e w1 ⟨rfl, rfl⟩
  go_wp2
  go_ret2
  exact ⟨rfl, rfl⟩
theorem of_noFirst (w : World) (c f : Int) (h1 : 0 ≤ c) (h2 : c ≤ 65535) (h3 : 281474976710655 < f) (h4 : f ≤ 18446744073709551615) :
    Calls Try.prog 10 #[.int .i64 c, .int .u64 f] w fun e w' => e = .returned (.tuple #[.pointer none, .int .i64 1]) ∧ w' = w := by
  go_enter Try.func10, Try.ntmps10
  go_wp2_with fail
  refine (isClient_yes w c h1 h2).mono ?_
  rintro e w1 ⟨rfl, rfl⟩
  go_wp2_with fail
  refine (isSeq_no w1 _ ?_ ?_ ?_).mono ?_
  · omega
  · omega
  · omega
  rintro e w2 ⟨rfl, rfl⟩
  go_wp2
  go_ret2
  exact ⟨rfl, rfl⟩
theorem of_no (w : World) (c f : Int) (h1 : -9223372036854775808 ≤ c) (h2 : c ≤ 9223372036854775807) (h3 : 0 ≤ f) (h4 : f ≤ 18446744073709551615) (h : ¬ (0 ≤ c ∧ c ≤ 65535 ∧ f ≤ 281474976710655)) :
    Calls Try.prog 10 #[.int .i64 c, .int .u64 f] w fun e w' => e = .returned (.tuple #[.pointer none, .int .i64 1]) ∧ w' = w := by
  by_cases hc : 0 ≤ c ∧ c ≤ 65535
  · exact of_noFirst w c f hc.1 hc.2 (by omega) h4
  · exact of_noClient w c f h1 h2 h3 h4 hc

theorem alive_any (w : World) : Calls Try.prog 7 #[] w fun e w' => e = .returned (.bool true) ∧ Keeps (fun _ => False) w w' := by
  go_enter Try.func7, Try.ntmps7
  go_wp2_with fail
  refine (make_yes w 1 2 (by decide)).mono ?_
  rintro e w1 ⟨rfl, rfl⟩
  go_wp2_with fail
  refine (of_yes w1 2 0 (by decide) (by decide) (by decide) (by decide)).mono ?_
  rintro e w2 ⟨rfl, hs, hk⟩
  go_wp2_with fail
  refine (next_yes w2 w1.heap.size 2 _ 0 hs (by decide)).mono ?_
  rintro e w3 ⟨rfl, hs3, hk3⟩
  go_wp2_with fail
  refine (last_any w3 w1.heap.size 2 _ _ hs3).mono ?_
  rintro e w4 ⟨rfl, rfl⟩
  go_wp2
  go_ret
  exact ⟨rfl, hk.then hk3 (fun i hi => by subst hi; exact .inr (Nat.le_refl _))⟩
end Go.Proofs.Ytkapjgoomceglaa
