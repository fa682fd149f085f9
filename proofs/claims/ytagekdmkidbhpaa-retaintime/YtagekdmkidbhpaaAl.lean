import Derived.Test.YtagekdmkidbhpaaR5
import Derived.Test.YtagekdmkidbhpaaO2
/- alive: the chapter's first example. -/
namespace Go.Proofs.Ytagekdmkidbhpaa
open Go.RowKit Go.Maps Go.Sort Orl
set_option linter.unusedVariables false
set_option linter.unusedSimpArgs false
namespace Kv
def a : Tx := ⟨#[97]⟩
def x : Tx := ⟨#[120]⟩
def y : Tx := ⟨#[121]⟩
def i1 : Nat := 65536
def i2 : Nat := 131072
def P1 : List Pr := [(a, x)]
def P2 : List Pr := [(a, y)]
def s1 : St := putAll i1 [a] 0 St.new P1
def s2 : St := commitS s1 i1 0
def s3 : St := putAll i2 [a] 1 s2 P2
def s4 : St := commitS s3 i2 3
theorem i12 : i1 ≠ i2 := by decide
theorem s1_V (m : Mk) : s1.V m = if m = (a, i1) then some ⟨x, [a], -1⟩ else none := rfl
theorem s1_last (k : Tx) : s1.last k = 0 := rfl
theorem s1_up (k : Tx) : upB s1 i1 k = true ↔ k = a := by
  rw [upB_iff, s1_last, s1_V]
  by_cases ha : k = a
  · subst ha; simp [i1]
  · simp [ha]
theorem s2_V (m : Mk) : s2.V m = s1.V m := by
  show (commitS s1 i1 0).V m = _
  rw [com_V]
  split
  · rename_i h
    rw [s1_V, if_neg (fun e => by rw [e] at h; exact Nat.lt_irrefl _ h.2)]
    rfl
  · rfl
theorem s2_last (k : Tx) : s2.last k = if k = a then i1 else 0 := by
  show (commitS s1 i1 0).last k = _
  rw [com_last]
  simp only [s1_up, s1_last]
theorem s3_V (m : Mk) : s3.V m = if m = (a, i2) then some ⟨y, [a], -1⟩ else s1.V m := by
  show (if m = (a, i2) then some (⟨y, [a], stampOf s2 i2 1 a⟩ : Vr) else s2.V m) = _
  rw [s2_V]
  have : stampOf s2 i2 1 a = -1 := by
    unfold stampOf
    rw [s2_last, if_pos rfl, if_neg (by decide)]
  rw [this]
theorem s3_last (k : Tx) : s3.last k = s2.last k := rfl
theorem s3_up (k : Tx) : upB s3 i2 k = true ↔ k = a := by
  rw [upB_iff, s3_last, s2_last, s3_V, s1_V]
  constructor
  · rintro ⟨h1, _⟩
    by_cases ha : k = a
    · exact ha
    · exfalso
      apply h1
      rw [if_neg (fun e => ha (congrArg Prod.fst e)), if_neg (fun e => ha (congrArg Prod.fst e))]
  · rintro rfl
    exact ⟨by simp, by simp [i1, i2]⟩
theorem s4_V (m : Mk) : s4.V m = if m = (a, i1) then some ⟨x, [a], 3⟩ else if m = (a, i2) then some ⟨y, [a], -1⟩ else none := by
  show (commitS s3 i2 3).V m = _
  rw [com_V]
  simp only [s3_up]
  obtain ⟨k, i⟩ := m
  by_cases h1 : (k, i) = (a, i1)
  · have e1 : k = a := congrArg Prod.fst h1
    have e2 : i = i1 := congrArg Prod.snd h1
    subst e1 e2
    rw [if_pos ⟨rfl, by decide⟩, if_pos rfl, s3_V, if_neg (fun e => i12 (congrArg Prod.snd e)), s1_V, if_pos rfl]
    rfl
  · rw [if_neg h1]
    by_cases h2 : (k, i) = (a, i2)
    · have e1 : k = a := congrArg Prod.fst h2
      have e2 : i = i2 := congrArg Prod.snd h2
      subst e1 e2
      rw [if_neg (fun e => Nat.lt_irrefl _ e.2), if_pos rfl, s3_V, if_pos rfl]
    · rw [if_neg h2]
      have e3 : s3.V (k, i) = none := by
        rw [s3_V, if_neg h2, s1_V, if_neg h1]
      split
      · rw [e3]; rfl
      · exact e3
theorem okk : okKeys [a] = true := by
  rw [okKeys_iff]
  refine ⟨by simp, fun k hk => ?_, by simp [Inc]⟩
  simp at hk; subst hk; decide
theorem pairs_ok (v : Tx) (hv : v.size ≤ 65535) : okPairs [(a, v)] [a] = true := by
  have h : inn [a] a = true := (inn_iff _ _).2 (by simp)
  simp [okPairs, hv, h, rising]
theorem ok1 : okPut i1 P1 [a] 0 = true := okPut_iff.2 ⟨by decide, okk, pairs_ok x (by decide), by decide⟩
theorem ok2 : okPut i2 P2 [a] 1 = true := okPut_iff.2 ⟨by decide, okk, pairs_ok y (by decide), by decide⟩
theorem miss1 : miss St.new i1 P1 = P1 := rfl
theorem miss2 : miss s2 i2 P2 = P2 := by
  unfold miss
  rw [List.filter_eq_self]
  intro p hp
  simp [P2] at hp
  subst hp
  rw [s2_V, s1_V, if_neg (fun e => i12 (congrArg Prod.snd e).symm)]
  rfl
theorem due2 : IsDue s4 2 [] := by
  refine ⟨List.Pairwise.nil, fun m => ?_⟩
  rw [dueB_iff, s4_V]
  constructor
  · intro h; cases h
  · rintro ⟨v, hv, h1, h2⟩
    exfalso
    by_cases e1 : m = (a, i1)
    · rw [if_pos e1] at hv; cases hv; simp at h2
    · rw [if_neg e1] at hv
      by_cases e2 : m = (a, i2)
      · rw [if_pos e2] at hv; cases hv; exact h1 rfl
      · rw [if_neg e2] at hv; cases hv
theorem due3 : IsDue s4 3 [(a, i1)] := by
  refine ⟨by simp [Inc], fun m => ?_⟩
  rw [dueB_iff, s4_V]
  constructor
  · intro h
    have e1 : m = (a, i1) := by simpa using h
    exact ⟨_, by rw [if_pos e1], by decide, by decide⟩
  · rintro ⟨v, hv, h1, h2⟩
    by_cases e1 : m = (a, i1)
    · rw [e1]; simp
    · rw [if_neg e1] at hv
      by_cases e2 : m = (a, i2)
      · rw [if_pos e2] at hv; cases hv; exact absurd rfl h1
      · rw [if_neg e2] at hv; cases hv
theorem next3 : IsNext s4 3 true := by
  refine ⟨fun _ => ⟨⟨(a, i1), _, by rw [s4_V, if_pos rfl], by decide, rfl⟩, fun m v hv hs => ?_⟩, fun h => by cases h⟩
  rw [s4_V] at hv
  by_cases e1 : m = (a, i1)
  · rw [if_pos e1] at hv; cases hv; simp
  · rw [if_neg e1] at hv
    by_cases e2 : m = (a, i2)
    · rw [if_pos e2] at hv; cases hv; exact absurd rfl hs
    · rw [if_neg e2] at hv; cases hv
theorem gone (k : Tx) : (collS s4 3).V (k, i1) = none := by
  show (if dueB s4 3 (k, i1) then none else s4.V (k, i1)) = none
  by_cases h : k = a
  · subst h
    rw [if_pos ((due3.is _).1 (by simp))]
  · split
    · rfl
    · rw [s4_V, if_neg (fun e => h (congrArg Prod.fst e)), if_neg (fun e => h (congrArg Prod.fst e))]
end Kv
theorem own_p1 (w : World) (x y : Tx) : Sl PE (w.alloc (.cells #[.string x, .string y] 52)) (some ⟨w.heap.size, 0, none⟩) 1 [(x, y)] := own_oneP w x y
open Kv in
theorem aput1 {w0 w : World} {p : Nat} {s : St} {N : Nat} {P : Nat → Prop} (h : Ow w0 w p s N P) (hN : N ≤ 900000000) (i : Nat) (v : Tx) (now : Int) (hi : i < 18446744073709551616) (hok : okPut i [(a, v)] [a] now = true) :
    Calls Try.prog 12 #[.pointer (some ⟨p, 0, none⟩), .int .u64 ((i : Nat) : Int), .slice (some ⟨w.heap.size, 0, none⟩) 1 1, .slice (some ⟨w.heap.size + 1, 0, none⟩) 1 1, .int .i64 now] ((w.alloc (.cells #[.string ⟨#[97]⟩, .string v] 52)).alloc (.cells #[.string ⟨#[97]⟩] 9)) fun e w' => ∃ B, e = .returned (.tuple #[.bool B, .int .i64 0]) ∧ Hid (Ow w0 w' p (putAll i [a] now s (miss s i [(a, v)])) (N + (miss s i [(a, v)]).length) P) := by
  have hA : Keeps no w ((w.alloc (.cells #[.string ⟨#[97]⟩, .string v] 52)).alloc (.cells #[.string ⟨#[97]⟩] 9)) := ((Keeps.refl no w).alloc _).alloc _
  have hs2 := own_one (w.alloc (.cells #[.string ⟨#[97]⟩, .string v] 52)) a
  rw [show (w.alloc (.cells #[.string ⟨#[97]⟩, .string v] 52)).heap.size = w.heap.size + 1 by simp] at hs2
  refine ((h.go hA).put i [(a, v)] [a] now (some ⟨w.heap.size, 0, none⟩) 1 1 (some ⟨w.heap.size + 1, 0, none⟩) 1 1 hi rfl rfl ((own_oneP w a v).keepsN ((Keeps.refl no _).alloc _)) hs2 (by simp) hok hN).mono ?_
  rintro e w' ⟨he, hT⟩
  exact ⟨_, he, hT.out.1⟩
theorem Ow.has0 {w0 w : World} {p : Nat} {s : St} {N : Nat} {P : Nat → Prop} (h : Ow w0 w p s N P) (i : Nat) (hi : i < 18446744073709551616) (hn : ∀ k, s.V (k, i) = none) :
    Calls Try.prog 19 #[.pointer (some ⟨p, 0, none⟩), .int .u64 ((i : Nat) : Int)] w fun e w' => e = .returned (.int .i64 0) ∧ w' = w := by
  obtain ⟨T, h, _⟩ := h
  refine (hasN_any w p T s N i h.is hi).mono ?_
  rintro e w' ⟨⟨n, rfl, hl⟩, hw⟩
  obtain ⟨l, h1, _, h3⟩ := hl.out
  have : l = [] := List.eq_nil_iff_forall_not_mem.2 fun k hk => (h3 k).1 hk (hn k)
  subst this
  subst h1
  exact ⟨rfl, hw⟩
theorem toListI (x y : Tx) : x.toList = y.toList ↔ x = y := by
  have := tx_eq x y
  constructor
  · intro h
    rw [h] at this
    simpa using this.symm
  · rintro rfl
    rfl
theorem eqW (x1 y1 : Tx) (x2 y2 : Nat) (w : World) : (binOp .eql 37 (.agg #[.string x1, .int .u64 ((x2 : Nat) : Int)]) (.agg #[.string y1, .int .u64 ((y2 : Nat) : Int)])).run Try.prog w = .ok (.bool (decide (x1 = y1) && decide (x2 = y2))) w := by
  have u9 := Try.underlying9
  have a9 := Try.isAgg9
  have z9 := Try.sizeOf9
  have ui := Try.underlying35
  have ai := Try.isAgg35
  have zi := Try.sizeOf35
  have hS : Try.prog.underlying 37 = some (.struct (Try.prog.fieldsOf 37)) := by kernel_rfl
  have hp : Try.prog.stoodInHeld 37 = false := by kernel_rfl
  rw [run_eql_struct, show (10000 : Nat) = 9999 + 1 from rfl, run_equalIn_agg w 9999 37 _ _ hS hp]
  simp only [Program.fieldsOf, Try.underlying37]
  go_simp
  by_cases h1 : x1 = y1 <;> by_cases h2 : x2 = y2 <;> simp [h1, h2, toListI] <;> omega
theorem neqW (x1 y1 : Tx) (x2 y2 : Nat) (w : World) : (binOp .neq 37 (.agg #[.string x1, .int .u64 ((x2 : Nat) : Int)]) (.agg #[.string y1, .int .u64 ((y2 : Nat) : Int)])).run Try.prog w = .ok (.bool (!(decide (x1 = y1) && decide (x2 = y2)))) w := by
  have u9 := Try.underlying9
  have a9 := Try.isAgg9
  have z9 := Try.sizeOf9
  have ui := Try.underlying35
  have ai := Try.isAgg35
  have zi := Try.sizeOf35
  have hS : Try.prog.underlying 37 = some (.struct (Try.prog.fieldsOf 37)) := by kernel_rfl
  have hp : Try.prog.stoodInHeld 37 = false := by kernel_rfl
  rw [run_neq_struct, show (10000 : Nat) = 9999 + 1 from rfl, run_equalIn_agg w 9999 37 _ _ hS hp]
  simp only [Program.fieldsOf, Try.underlying37]
  go_simp
  by_cases h1 : x1 = y1 <;> by_cases h2 : x2 = y2 <;> simp [h1, h2, toListI] <;> omega
open Kv in
set_option maxRecDepth 10000 in
theorem alive_any (w : World) : Calls Try.prog 5 #[] w fun e w' => e = .returned (.bool true) ∧ Keeps no w w' := by
  have hN := ow_new w
  go_enter Try.func5, Try.ntmps5
  go_wp2_with fail
  refine hN.mono ?_
  rintro e w1 ⟨p, rfl, H1⟩
  clear hN
  go_wp2_with fail
  refine (aput1 H1.out (by omega) i1 x 0 (by decide) ok1).mono ?_
  rintro e w3 ⟨B, rfl, h3⟩
  rw [show miss St.new i1 [(a, x)] = [(a, x)] from rfl] at h3
  have H3 : Hid (Ow w w3 p s1 1 no) := h3.out
  clear h3 H1
  go_wp2_with fail
  refine (H3.out.commit i1 0 (by decide) (by decide) (by decide) (by omega)).mono ?_
  rintro e w4 ⟨n4, rfl, hc4, h4⟩
  have H4 : Hid (Ow w w4 p s2 1 no) := h4.out.1
  clear h4 H3 hc4
  go_wp2_with fail
  refine (aput1 H4.out (by omega) i2 y 1 (by decide) ok2).mono ?_
  rintro e w5 ⟨B2, rfl, h5⟩
  rw [show miss s2 i2 [(a, y)] = [(a, y)] from miss2] at h5
  have H5 : Hid (Ow w w5 p s3 2 no) := h5.out
  clear h5 H4
  go_wp2_with fail
  refine (H5.out.commit i2 3 (by decide) (by decide) (by decide) (by omega)).mono ?_
  rintro e w6 ⟨n6, rfl, hc6, h6⟩
  have H6 : Hid (Ow w w6 p s4 2 no) := h6.out.1
  clear h6 H5 hc6
  go_wp2_with fail
  refine (H6.out.due 12 10 (by decide) (by decide) (by omega)).mono ?_
  rintro e w7 ⟨v7, rfl, o7, q7, c7, ds7, rfl, hn7, hd7, hs7⟩
  have e7 : ds7 = [] := hs7.out.1.same due2
  subst e7
  have eq7 : q7 = 0 := hn7.out
  subst eq7
  have H7 : Hid (Ow w w7 p s4 2 no) := H6.out.go hd7.out.2.2
  clear hn7 hd7 hs7 H6
  go_wp2_with fail
  refine (H7.out.next 10 (by decide) (by omega)).mono ?_
  rintro e w8 ⟨z8, is8, rfl, hk8, hx8⟩
  obtain ⟨L8, hz8, hi8⟩ := hx8.out
  obtain ⟨rfl, e8⟩ := hi8.same next3
  rw [e8 10] at hz8
  have hz8' : z8 = 13 := hz8
  subst hz8'
  have H8 : Hid (Ow w w8 p s4 2 no) := H7.out.go hk8.out
  clear hk8 hx8 hi8 e8 hz8 H7
  go_wp2_with fail
  refine (H8.out.collect 13 10 (by decide) (by decide) (by omega)).mono ?_
  rintro e w9 ⟨v9, rfl, o9, q9, c9, ds9, rfl, hn9, hd9, hs9⟩
  have e9 : ds9 = [(a, i1)] := hs9.out.1.same due3
  subst e9
  have eq9 : q9 = 1 := hn9.out
  subst eq9
  obtain ⟨b, off, rfl, g0, g1⟩ := atW hd9.out.1.sl (show 0 < [(a, i1)].length by simp)
  have H9 : Hid (Ow w w9 p (collS s4 3) 2 (fun b_1 => no b_1 ∨ inO (some ⟨b, off, none⟩) b_1)) := hd9.out.2.2.1
  have hha := H9.out.has0 i1 (by decide) gone
  have heq := fun X => eqW a a i1 i1 X
  have HK : Hid (Keeps no w w9) := H9.out.keep
  simp only [Nat.zero_mul, Nat.add_zero] at g0 g1
  simp only [List.getD_cons_zero] at g0 g1
  simp only [decide_true, Bool.and_self] at heq
  have g0' : w9.cell? ⟨b, off, none⟩ = some (.string ⟨#[97]⟩) := g0
  have g1' : w9.cell? ⟨b, off + 1, none⟩ = some (.int .u64 65536) := g1
  have hha' : Calls Try.prog 19 #[.pointer (some ⟨p, 0, none⟩), .int .u64 65536] w9 fun e w' => e = .returned (.int .i64 0) ∧ w' = w9 := hha
  clear hn9 hd9 hs9 H8 H9 g0 g1 hha heq
  go_wp2_with (go_at_call 19; refine hha'.mono ?_; rintro e w' ⟨rfl, hw⟩; subst w')
  go_ret
  exact ⟨rfl, HK.out⟩
end Go.Proofs.Ytagekdmkidbhpaa
