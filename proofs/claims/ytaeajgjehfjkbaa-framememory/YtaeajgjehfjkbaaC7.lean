/- alive: the chapter's examples. -/
import Derived.Test.YtaeajgjehfjkbaaC6
import Derived.Lib.SlBytesConst
namespace Go.Proofs.Ytaeajgjehfjkbaa
open Go.RowKit
set_option linter.unusedVariables false
set_option linter.unusedSimpArgs false

/-- Split of a stream whose frames are known -/
theorem split_known (w : World) (a : Option Addr) (n c : Nat) (bs : Bs) (hn : n = bs.length) (hs : Sl BE w a c bs) (hb : (n : Int) ≤ 16777216) (l : List Bs) (r : Bs) (h : split bs = some (l, r)) (m k : Nat) (hm : m = l.length) (hk : k = r.length) :
    Calls Try.prog 11 #[.slice a n c] w fun e w' => ∃ oL cL ls oR cR, e = .returned (.tuple #[.slice oL m cL, .slice oR k cR, .int .i64 0]) ∧ bods ls = l ∧ Spl w w' oL cL ls oR cR r := by
  refine (split_any w a n c bs hn hs hb).mono ?_
  rintro e w' (⟨h1, _⟩ | ⟨oL, m', cL, ls, oR, k', cR, r', rfl, h1, hm', hk', hS⟩)
  · rw [h] at h1; cases h1
  · rw [h] at h1
    injection h1 with h1
    injection h1 with h1 h2
    subst h1 h2
    rw [bods_len, ← hm'.out] at hm
    rw [← hk'.out] at hk
    subst hm hk
    exact ⟨oL, cL, ls, oR, cR, rfl, rfl, hS⟩
theorem split_refused (w : World) (a : Option Addr) (n c : Nat) (bs : Bs) (hn : n = bs.length) (hs : Sl BE w a c bs) (hb : (n : Int) ≤ 16777216) (h : split bs = none) :
    Calls Try.prog 11 #[.slice a n c] w fun e w' => e = .returned (.tuple #[.slice none 0 0, .slice none 0 0, .int .i64 3]) ∧ Keeps no w w' := by
  refine (split_any w a n c bs hn hs hb).mono ?_
  rintro e w' (⟨_, h1, h2⟩ | ⟨oL, m', cL, ls, oR, k', cR, r', rfl, h1, hm', hk', hS⟩)
  · exact ⟨h1, h2⟩
  · rw [h] at h1; cases h1
theorem ex1 : split [0, 0, 0, 2, 97, 98, 0, 0, 0, 0, 0, 0, 0, 5, 97] = some ([[97, 98], []], [0, 0, 0, 5, 97]) := by kernel_rfl
theorem ex2 : split [0, 0, 0, 1, 97, 0, 16, 0, 1] = none := by kernel_rfl
theorem ex3 : fr [97, 98] = [0, 0, 0, 2, 97, 98] := by kernel_rfl
theorem two_of {ls : List (LS UInt8)} {x y : Bs} (h : bods ls = [x, y]) : ls.length = 2 ∧ (ls.getD 0 ls0).xs = x ∧ (ls.getD 1 ls0).xs = y := by
  refine ⟨by rw [← bods_len, h]; rfl, by rw [← bods_at, h]; rfl, by rw [← bods_at, h]; rfl⟩

set_option maxRecDepth 100000 in
theorem alive_any (w : World) : Calls Try.prog 8 #[] w fun e w' => e = .returned (.bool true) ∧ Keeps no w w' := by
  have kc := fun (w : World) (C : Array Value) (n c : Nat) => Lib.run_convert_bytes_const (P := Try.prog) w 24 5 C n c Try.underlying24 Try.underlying5
  have mx : (15 : Nat) ≤ maxLen := by unfold maxLen; omega
  go_enter Try.func8, Try.ntmps8
  go_wp2_with fail
  refine (build_any _ _ 2 2 [97, 98] rfl ⟨lit_row okB w [97, 98] _ _ rfl, Nat.le_refl 2, fun e => by cases e⟩ (by omega)).mono ?_
  rintro e w1 ⟨o1, m1, c1, rfl, hm1, hO1, hN1, hK1⟩
  obtain rfl : m1 = 6 := hm1.out
  have HK1 : Hid (Keeps no w w1) := ((Keeps.refl no w).alloc _).trans hK1
  have HO1 : Hid (Own BE w1 o1 c1 [0, 0, 0, 2, 97, 98]) := by rw [← ex3]; exact hO1
  clear hm1 hO1 hN1 hK1
  go_wp2_with fail
  refine (split_known _ _ 15 15 _ rfl (lit_own okB w1 [0, 0, 0, 2, 97, 98, 0, 0, 0, 0, 0, 0, 0, 5, 97] 15 rfl mx _ rfl).sl (by omega) _ _ ex1 2 5 rfl rfl).mono ?_
  rintro e w2 ⟨oL, cL, ls, oR, cR, rfl, hls, hS⟩
  have hK2 : Keeps no w1 w2 := ((Keeps.refl no w1).alloc _).trans hS.h.kp
  have HO1 : Hid (Own BE w2 o1 c1 [0, 0, 0, 2, 97, 98]) := HO1.out.keepsN hK2
  have HK2 : Hid (Keeps no w w2) := HK1.out.trans hK2
  have HS : Hid (Lst w2 oL ls ∧ Own BE w2 oR cR [0, 0, 0, 5, 97] ∧ bods ls = [[97, 98], []]) := ⟨hS.h.lst, hS.rest, hls⟩
  clear hK2 hS HK1 hls
  go_wp2_with fail
  refine (split_refused _ _ 9 9 _ rfl (lit_own okB w2 [0, 0, 0, 1, 97, 0, 16, 0, 1] 9 rfl (by omega) _ rfl).sl (by omega) ex2).mono ?_
  rintro e w3 ⟨rfl, hk3⟩
  have hK3 : Keeps no w2 w3 := ((Keeps.refl no w2).alloc _).trans hk3
  have HO1 : Hid (Own BE w3 o1 c1 [0, 0, 0, 2, 97, 98]) := HO1.out.keepsN hK3
  have HK3 : Hid (Keeps no w w3) := HK2.out.trans hK3
  have hL := HS.out.1.keepsN hK3
  have HR : Hid (Own BE w3 oR cR [0, 0, 0, 5, 97]) := HS.out.2.1.keepsN hK3
  obtain ⟨t1, t2, t3⟩ := two_of HS.out.2.2
  obtain ⟨b1, f1, rfl, d1⟩ := rowX_at hL.l (j := 0) (by omega)
  obtain ⟨_, _, e, d2⟩ := rowX_at hL.l (j := 1) (by omega)
  cases e
  rw [t2] at d1
  rw [t3] at d2
  have r1 := hL.x 0 (by omega)
  rw [t2] at r1
  obtain ⟨X, hX⟩ : ∃ X, X = ls.getD 0 ls0 := ⟨_, rfl⟩
  obtain ⟨Y, hY⟩ : ∃ Y, Y = ls.getD 1 ls0 := ⟨_, rfl⟩
  rw [← hX] at d1 r1
  rw [← hY] at d2
  simp only [List.length_cons, List.length_nil, Nat.zero_add, Nat.add_zero, Nat.reduceAdd] at d1 d2
  have HX : Hid (Row BE w3 X.o [97, 98]) := r1
  have HC : Hid (w3.cell? ⟨b1, f1, none⟩ = some (.slice X.o 2 X.c) ∧ w3.cell? ⟨b1, f1 + 1, none⟩ = some (.slice Y.o 0 Y.c)) := ⟨d1, d2⟩
  clear t1 t2 t3 hL hk3 hK3 HS HK2 r1 hX hY d1 d2
  go_wp2_with fail
  refine (same_yes _ o1 6 c1 _ 6 6 _ rfl rfl (HO1.out.row.keepsN ((Keeps.refl _ _).alloc _)) (lit_row okB w3 [0, 0, 0, 2, 97, 98] _ _ rfl)).mono ?_
  rintro e w4 ⟨rfl, e4⟩
  have HK4 : Hid (Keeps no w3 w4) := by rw [e4]; exact (Keeps.refl _ _).alloc _
  have d1 := HK4.out.cellN HC.out.1
  have d2 := HK4.out.cellN HC.out.2
  clear e4
  go_wp2_with fail
  refine (same_yes _ X.o 2 X.c _ 2 2 [97, 98] rfl rfl (HX.out.keepsN (HK4.out.alloc _)) (lit_row okB w4 [97, 98] _ _ rfl)).mono ?_
  rintro e w5 ⟨rfl, e5⟩
  have HK5 : Hid (Keeps no w3 w5) := by rw [e5]; exact HK4.out.alloc _
  have d2 := HK5.out.cellN HC.out.2
  clear e5
  go_wp2_with fail
  refine (same_yes _ oR 5 cR _ 5 5 [0, 0, 0, 5, 97] rfl rfl (HR.out.row.keepsN (HK5.out.alloc _)) (lit_row okB w5 [0, 0, 0, 5, 97] _ _ rfl)).mono ?_
  rintro e w6 ⟨rfl, e6⟩
  have HK6 : Hid (Keeps no w w6) := by rw [e6]; exact (HK3.out.trans HK5.out).alloc _
  clear e6
  go_wp2_with fail
  go_ret
  exact ⟨rfl, HK6.out⟩
end Go.Proofs.Ytaeajgjehfjkbaa
