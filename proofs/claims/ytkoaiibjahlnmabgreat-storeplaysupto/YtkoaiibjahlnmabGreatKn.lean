import Derived.Test.YtkoaiibjahlnmabGreatL1
import Derived.Test.YtkoaiibjahlnmabGreatOf
import Derived.Test.YtkoaiibjahlnmabGreatKp
/- known. -/
namespace Go.Proofs.YtkoaiibjahlnmabGreat
open Go.RowKit Go.Maps Go.Sort Orl
set_option linter.unusedVariables false
set_option linter.unusedSimpArgs false

theorem fieldV2 (a b c d : Value) (w : World) : (Instr.field 44 (.agg #[a, b, c, d]) 2).run Tryz.prog w = .ok c w := by kernel_rfl
theorem own_two (w : World) (x y : Tx) : Sl TE (w.alloc (.cells #[.string x, .string y] 9)) (some ⟨w.heap.size, 0, none⟩) 2 [x, y] := by
  refine ⟨.inr ⟨_, 0, rfl, fun j u hj => ?_⟩, by simp, fun e => by cases e⟩
  rw [Nat.zero_add, cell_of_blk (blk_new w _)]
  simpa [El.cells, TE] using hj
theorem own_four (w : World) (x y z u : Tx) : Sl TE (w.alloc (.cells #[.string x, .string y, .string z, .string u] 9)) (some ⟨w.heap.size, 0, none⟩) 4 [x, y, z, u] := by
  refine ⟨.inr ⟨_, 0, rfl, fun j u hj => ?_⟩, by simp, fun e => by cases e⟩
  rw [Nat.zero_add, cell_of_blk (blk_new w _)]
  simpa [El.cells, TE] using hj
open Kw in
theorem kpairs4 (w : World) : Calls Tryz.prog 10 #[.slice (some ⟨w.heap.size, 0, none⟩) 4 4] (w.alloc (.cells #[.string ⟨#[97]⟩, .string ⟨#[120]⟩, .string ⟨#[98]⟩, .string ⟨#[121]⟩] 9)) fun e w' => ∃ o c, e = .returned (.slice o 2 c) ∧ Hid (Own PE w' o c P1 ∧ Keeps no w w') := by
  refine (pairs_any _ (some ⟨w.heap.size, 0, none⟩) 4 4 [a, x, b, y] 2 rfl rfl (by omega) (own_four w a x b y)).mono ?_
  rintro e w' ⟨v, rfl, o, n, c, rfl, hn, ho, hnw, hk⟩
  have e1 : n = 2 := hn.out
  subst e1
  exact ⟨o, c, rfl, ho, ((Keeps.refl no w).alloc _).trans hk⟩
open Kw in
theorem kpairs2 (w : World) : Calls Tryz.prog 10 #[.slice (some ⟨w.heap.size, 0, none⟩) 2 2] (w.alloc (.cells #[.string ⟨#[97]⟩, .string ⟨#[122]⟩] 9)) fun e w' => ∃ o c, e = .returned (.slice o 1 c) ∧ Hid (Own PE w' o c P2 ∧ Keeps no w w') := by
  refine (pairs_any _ (some ⟨w.heap.size, 0, none⟩) 2 2 [a, z] 1 rfl rfl (by omega) (own_two w a z)).mono ?_
  rintro e w' ⟨v, rfl, o, n, c, rfl, hn, ho, hnw, hk⟩
  have e1 : n = 1 := hn.out
  subst e1
  exact ⟨o, c, rfl, ho, ((Keeps.refl no w).alloc _).trans hk⟩
open Kw in
theorem kput1 {w0 w : World} {p : Nat} {s : St} {N : Nat} {P : Nat → Prop} (h : Ow w0 w p s N P) (hN : N ≤ 900000000) (o : Option Addr) (c : Nat) (ho : Own PE w o c P1) :
    Calls Tryz.prog 9 #[.pointer (some ⟨p, 0, none⟩), .int .u64 65536, .slice o 2 c, .slice (some ⟨w.heap.size, 0, none⟩) 2 2, .int .i64 5] (w.alloc (.cells #[.string ⟨#[97]⟩, .string ⟨#[98]⟩] 9)) fun e w' => e = .returned (.tuple #[.bool (decide (0 < (miss s i1 P1).length)), .int .i64 0]) ∧ Hid (Ow w0 w' p (putAll i1 [a, b] 5 s (miss s i1 P1)) (N + (miss s i1 P1).length) P ∧ Keeps (fun b => ¬ P b) w w') := by
  have hA : Keeps no w (w.alloc (.cells #[.string ⟨#[97]⟩, .string ⟨#[98]⟩] 9)) := (Keeps.refl no w).alloc _
  refine ((h.go hA).put i1 P1 [a, b] 5 o 2 c (some ⟨w.heap.size, 0, none⟩) 2 2 (by decide) rfl rfl (ho.sl.keepsN hA) (own_two w a b) (by decide) ok1 hN).mono ?_
  rintro e w' ⟨he, hT⟩
  exact ⟨he, hT.out.1, hA.of_no.trans hT.out.2⟩
open Kw in
theorem kput2 {w0 w : World} {p : Nat} {s : St} {N : Nat} {P : Nat → Prop} (h : Ow w0 w p s N P) (hN : N ≤ 900000000) (o : Option Addr) (c : Nat) (ho : Own PE w o c P2) :
    Calls Tryz.prog 9 #[.pointer (some ⟨p, 0, none⟩), .int .u64 131072, .slice o 1 c, .slice (some ⟨w.heap.size, 0, none⟩) 2 2, .int .i64 7] (w.alloc (.cells #[.string ⟨#[97]⟩, .string ⟨#[99]⟩] 9)) fun e w' => e = .returned (.tuple #[.bool (decide (0 < (miss s i2 P2).length)), .int .i64 0]) ∧ Hid (Ow w0 w' p (putAll i2 [a, Kw.c] 7 s (miss s i2 P2)) (N + (miss s i2 P2).length) P ∧ Keeps (fun b => ¬ P b) w w') := by
  have hA : Keeps no w (w.alloc (.cells #[.string ⟨#[97]⟩, .string ⟨#[99]⟩] 9)) := (Keeps.refl no w).alloc _
  refine ((h.go hA).put i2 P2 [a, Kw.c] 7 o 1 c (some ⟨w.heap.size, 0, none⟩) 2 2 (by decide) rfl rfl (ho.sl.keepsN hA) (own_two w a Kw.c) (by decide) ok2 hN).mono ?_
  rintro e w' ⟨he, hT⟩
  exact ⟨he, hT.out.1, hA.of_no.trans hT.out.2⟩
open Kw in
set_option maxRecDepth 10000 in
theorem known_any (w : World) : Calls Tryz.prog 4 #[] w fun e w' => e = .returned (.bool true) ∧ Keeps no w w' := by
  have hN := ow_new w
  go_enter Tryz.func4, Tryz.ntmps4
  go_wp2_with fail
  refine hN.mono ?_
  rintro e w1 ⟨p, rfl, H1⟩
  clear hN
  go_wp2_with fail
  refine (kpairs4 w1).mono ?_
  rintro e w2 ⟨o2, c2, rfl, h2⟩
  have H2 : Hid (Ow w w2 p St.new 0 no ∧ Own PE w2 o2 c2 P1) := ⟨H1.out.go h2.out.2, h2.out.1⟩
  clear h2 H1
  go_wp2_with fail
  refine (kput1 H2.out.1 (by omega) o2 c2 H2.out.2).mono ?_
  rintro e w3 ⟨rfl, h3⟩
  rw [miss1] at h3 ⊢
  rw [show decide (0 < P1.length) = true from rfl]
  have H3 : Hid (Ow w w3 p s1 2 no) := h3.out.1
  clear h3 H2
  go_wp2_with fail
  refine (kpairs4 w3).mono ?_
  rintro e w4 ⟨o4, c4, rfl, h4⟩
  have H4 : Hid (Ow w w4 p s1 2 no ∧ Own PE w4 o4 c4 P1) := ⟨H3.out.go h4.out.2, h4.out.1⟩
  clear h4 H3
  go_wp2_with fail
  refine (kput1 H4.out.1 (by omega) o4 c4 H4.out.2).mono ?_
  rintro e w5 ⟨rfl, h5⟩
  rw [miss1'] at h5 ⊢
  have H5 : Hid (Ow w w5 p s1 2 no) := h5.out.1
  clear h5 H4
  go_wp2_with fail
  refine (H5.out.latest a (by decide)).mono ?_
  rintro e w6 ⟨v6, o6, n6, d6, rfl, hk6, hv6, hz6⟩
  rw [s1_last]
  obtain ⟨g, hg⟩ : ∃ g, g = w6.heap.size := ⟨_, rfl⟩
  have HG : Hid (g = w6.heap.size) := hg
  have H6 : Hid (Ow w (w6.alloc (.cells #[.string a, .int .u64 0, .string v6, .slice o6 n6 d6] 44)) p s1 2 (fun b => b = g) ∧ (w6.alloc (.cells #[.string a, .int .u64 0, .string v6, .slice o6 n6 d6] 44)).heap[g]? = some (.cells #[.string a, .int .u64 0, .string v6, .slice o6 n6 d6] 44 (0, 0))) :=
    ⟨(((H5.out.go hk6.out).grow ((Keeps.refl no w6).alloc _)).sub (fun b hb => .inr (by simp; omega))), by rw [hg]; exact blk_new w6 _⟩
  clear hk6 hv6 hz6 H5 hg
  go_wp2_with fail
  refine (H6.out.1.commit i1 6 (by decide) (by decide) (by decide) (by omega)).mono ?_
  rintro e w7 ⟨n7, rfl, hc7, h7⟩
  have e7 := count1 hc7.out
  subst e7
  rw [← HG.out]
  have H7 : Hid (Ow w w7 p s2 2 (fun b => b = g) ∧ w7.heap[g]? = some (.cells #[.string a, .int .u64 0, .string v6, .slice o6 n6 d6] 44 (0, 0))) := ⟨h7.out.1, h7.out.2.at H6.out.2 (fun hc => hc rfl)⟩
  clear h7 H6 hc7 HG
  go_wp2_with fail
  refine (kpairs2 w7).mono ?_
  rintro e w8 ⟨o8, c8, rfl, h8⟩
  have H8 : Hid (Ow w w8 p s2 2 (fun b => b = g) ∧ Own PE w8 o8 c8 P2 ∧ w8.heap[g]? = some (.cells #[.string a, .int .u64 0, .string v6, .slice o6 n6 d6] 44 (0, 0))) := ⟨H7.out.1.go h8.out.2, h8.out.1, h8.out.2.at H7.out.2 id⟩
  clear h8 H7
  go_wp2_with fail
  refine (kput2 H8.out.1 (by omega) o8 c8 H8.out.2.1).mono ?_
  rintro e w9 ⟨rfl, h9⟩
  rw [miss2] at h9 ⊢
  rw [show decide (0 < P2.length) = true from rfl]
  have H9 : Hid (Ow w w9 p s3 3 (fun b => b = g) ∧ w9.heap[g]? = some (.cells #[.string a, .int .u64 0, .string v6, .slice o6 n6 d6] 44 (0, 0))) := ⟨h9.out.1, h9.out.2.at H8.out.2.2 (fun hc => hc rfl)⟩
  clear h9 H8
  go_wp2_with fail
  refine (H9.out.1.commit i2 9 (by decide) (by decide) (by decide) (by omega)).mono ?_
  rintro e w10 ⟨n10, rfl, hc10, h10⟩
  have e10 := count2 hc10.out
  subst e10
  have H10 : Hid (Ow w w10 p s4 3 (fun b => b = g) ∧ w10.heap[g]? = some (.cells #[.string a, .int .u64 0, .string v6, .slice o6 n6 d6] 44 (0, 0))) := ⟨h10.out.1, h10.out.2.at H9.out.2 (fun hc => hc rfl)⟩
  clear h10 H9 hc10
  go_wp2_with fail
  refine (H10.out.1.kept (by omega)).mono ?_
  rintro e w11 ⟨v11, rfl, o11, n11, c11, ks, rfl, hn11, hK, hln⟩
  obtain ⟨k0, k1, k2, rfl, q0, q1, q2⟩ := kept4 hK.out.2.1 hK.out.2.2.1 hK.out.2.2.2
  have en : n11 = 3 := hn11.out
  subst en
  have H11 : Hid (Ow w w11 p s4 3 (fun b => b = g)) := H10.out.1.go hK.out.1.keep
  have cg : w11.cell? ⟨g, 1, none⟩ = some (.int .u64 0) := cell_of_blk (hK.out.1.keep.at H10.out.2 id) 1
  obtain ⟨gk, hgk⟩ := hK.out.1.own.g0 (by simp)
  subst hgk
  have hrow := hK.out.1.own.row
  have x0 : w11.cell? ⟨gk, 4, none⟩ = some (.int .i64 9) := by
    rcases hrow with e | ⟨b', off', e, hc⟩
    · cases e
    · cases e
      have := hc 4 (.int .i64 k0.stamp) (by simp [El.cells, KE])
      rw [q0] at this
      simpa using this
  have x1 : w11.cell? ⟨gk, 9, none⟩ = some (.int .i64 (-1)) := by
    rcases hrow with e | ⟨b', off', e, hc⟩
    · cases e
    · cases e
      have := hc 9 (.int .i64 k1.stamp) (by simp [El.cells, KE])
      rw [q1] at this
      simpa using this
  have x2 : w11.cell? ⟨gk, 14, none⟩ = some (.int .i64 (-1)) := by
    rcases hrow with e | ⟨b', off', e, hc⟩
    · cases e
    · cases e
      have := hc 14 (.int .i64 k2.stamp) (by simp [El.cells, KE])
      rw [q2] at this
      simpa using this
  clear hn11 H10 hrow q0 q1 q2 hK hln
  go_wp2_with fail
  refine (H11.out.latest a (by decide)).mono ?_
  rintro e w12 ⟨v12, o12, n12, d12, rfl, hk12, hv12, hz12⟩
  obtain ⟨rfl, t1, t2, t3⟩ := hv12.out _ s4_a
  have H12 : Hid (Ow w w12 p s4 3 (fun b => b = g)) := H11.out.go hk12.out
  have hf := fun W => fieldV2 (.string a) (.int .u64 ((s4.last a : Nat) : Int)) (.string z) (.slice o12 n12 d12) W
  have hzl : ByteArray.toList z = [122] := by rw [Lib.toList_data]; rfl
  clear hk12 hv12 hz12 H11 t1 t2 t3
  go_wp2_with fail
  refine (H12.out.last b (by decide)).mono ?_
  rintro e w13 ⟨rfl, hw13⟩
  subst w13
  rw [s4_b]
  clear hf
  go_wp2_with fail
  refine (H12.out.drop0 a i2 ⟨by show a.size ≤ maxLen; unfold maxLen; decide, by decide⟩ (by rw [drop1]; decide)).mono ?_
  rintro e w14 ⟨rfl, hk14⟩
  rw [drop1]
  have H14 : Hid (Ow w w14 p s4 3 (fun b => b = g)) := H12.out.go hk14
  clear hk14 H12
  go_wp2_with fail
  refine (H14.out.drop0 c i2 ⟨by show c.size ≤ maxLen; unfold maxLen; decide, by decide⟩ (by rw [drop2]; decide)).mono ?_
  rintro e w15 ⟨rfl, hk15⟩
  rw [drop2]
  have H15 : Hid (Ow w w15 p s4 3 (fun b => b = g)) := H14.out.go hk15
  clear hk15 H14
  go_wp2_with fail
  go_ret
  exact ⟨rfl, H15.out.keep⟩
end Go.Proofs.YtkoaiibjahlnmabGreat
