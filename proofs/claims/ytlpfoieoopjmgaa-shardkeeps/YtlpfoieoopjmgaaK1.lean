import Derived.Test.YtlpfoieoopjmgaaG1
import Derived.Test.YtlpfoieoopjmgaaQ1
namespace Go.Proofs.Ytlpfoieoopjmgaa
open Go.RowKit
set_option linter.unusedVariables false
set_option linter.unusedSimpArgs false

theorem groupT_no (w : World) (a : Option Addr) (n c : Nat) (z : Int) (h : ¬ (1 ≤ z ∧ z ≤ 64)) :
    Calls Try.prog 9 #[.slice a n c, .int .i64 z] w fun e w' => e = .returned (.tuple #[.slice none 0 0, .int .i64 1]) ∧ w' = w := by
  have H : Hid (¬ (1 ≤ z ∧ z ≤ 64)) := h
  clear h
  go_enter Try.func9, Try.ntmps9
  go_wp2_with (go_at_call 19; go_must (refine (may_no z H.out _).mono ?_); rintro e w' ⟨rfl, rfl⟩)
  go_ret2
  exact ⟨rfl, rfl⟩

def tB : Tx := ⟨#[98]⟩
def tA : Tx := ⟨#[97]⟩
theorem pl_b4 : pl 4 tB = 1 := by decide +kernel
theorem pl_a4 : pl 4 tA = 0 := by decide +kernel
theorem pl_e4 : pl 4 e0 = 1 := by decide +kernel
theorem pl_b64 : pl 64 tB = 37 := by decide +kernel
theorem prt_known : prt 4 idT [tB, tA, e0, tB] 4 = [(0, [tA]), (1, [tB, e0, tB])] := by
  have o : ∀ j, ownOf 4 idT [tB, tA, e0, tB] j = (if 1 = j then [tB] else []) ++ ((if 0 = j then [tA] else []) ++ ((if 1 = j then [e0] else []) ++ (if 1 = j then [tB] else []))) := by
    intro j
    unfold ownOf idT
    simp only [List.filter_cons, List.filter_nil, pl_b4, pl_a4, pl_e4]
    by_cases h1 : 1 = j <;> by_cases h0 : 0 = j <;> simp [h1, h0]
  have e0' := o 0
  have e1 := o 1
  have e2 := o 2
  have e3 := o 3
  simp at e0' e1 e2 e3
  simp [prt, e0', e1, e2, e3]
theorem cell_alloc {w : World} {p : Addr} {v : Value} (h : w.cell? p = some v) (o : Obj) : (w.alloc o).cell? p = some v := ((Keeps.refl no w).alloc o).cellN h
/-- same, where the two are one: all is as it was -/
theorem sameK (w : World) (oa : Option Addr) (na ca : Nat) (ob : Option Addr) (nb cb : Nat) (l : List Tx) (hna : na = l.length) (hnb : nb = l.length) (hl : (l.length : Int) ≤ 8796093022208) (ha : Sl TE w oa ca l) (hb : Sl TE w ob cb l) :
    Calls Try.prog 12 #[.slice oa na ca, .slice ob nb cb] w fun e w' => e = .returned (.bool true) ∧ Keeps no w w' := by
  refine (sameQ_yes w oa na ca ob nb cb l hna hnb hl ha hb).mono ?_
  rintro e w' ⟨rfl, m, rfl⟩
  exact ⟨rfl, (Keeps.refl _ _).drewN m⟩
/-- texts of a literal -/
theorem lit_many {α : Type} {E : El α} (w : World) (xs : List α) (cs : Array Value) (hc : cs.toList = E.cells xs) (n : Nat) (hn : n = xs.length) : Sl E (w.alloc (.cells cs E.e)) (some ⟨w.heap.size, 0, none⟩) n xs := by
  refine ⟨.inr ⟨w.heap.size, 0, rfl, fun j u hj => ?_⟩, by omega, by simp⟩
  rw [cell_of_blk (blk_new w _), Nat.zero_add, ← Array.getElem?_toList, hc]
  exact hj
theorem gs_known {o : Option Addr} {c : Nat} {gs : List (GS Tx)} {w w' : World} (h : Told TE GE idT w 4 [tB, tA, e0, tB] o c gs w') : ∃ o1 c1 o2 c2, gs = [⟨0, o1, c1, [tA]⟩, ⟨1, o2, c2, [tB, e0, tB]⟩] := by
  have hv := h.val
  rw [prt_known] at hv
  match gs, hv with
  | [⟨n1, o1, c1, x1⟩, ⟨n2, o2, c2, x2⟩], hv =>
    simp at hv
    obtain ⟨⟨rfl, rfl⟩, rfl, rfl⟩ := hv
    exact ⟨o1, c1, o2, c2, rfl⟩

set_option maxRecDepth 10000 in
theorem known_any (w : World) : Calls Try.prog 10 #[] w fun e w' => e = .returned (.bool true) ∧ Keeps no w w' := by
  have hsl := lit_many (E := TE) w [tB, tA, e0, tB] #[.string tB, .string tA, .string e0, .string tB] (by simp [El.cells, TE]) 4 rfl
  have HSL : Hid (Sl TE (w.alloc (.cells #[.string tB, .string tA, .string e0, .string tB] 9)) (some ⟨w.heap.size, 0, none⟩) 4 [tB, tA, e0, tB]) := hsl
  clear hsl
  have HZ : Hid (∀ x ∈ [tB, tA, e0, tB], x.size ≤ maxLen) := by
    intro x hx
    simp at hx
    rcases hx with rfl | rfl | rfl | rfl <;> decide
  go_enter Try.func10, Try.ntmps10
  go_wp2_with fail
  refine (groupT_yes _ _ 4 4 [tB, tA, e0, tB] 4 rfl (by decide) HZ.out HSL.out (by decide) (by decide)).mono ?_
  rintro e w1 ⟨o, m, c, gs, rfl, hTT⟩
  obtain ⟨hm, hT⟩ := hTT.out
  clear hTT
  obtain ⟨o1, c1, o2, c2, rfl⟩ := gs_known hT
  obtain ⟨b, off, rfl, d1, d2⟩ := hT.own.sl.two okG rfl gs0 (j := 0) (by simp) _ _ rfl
  obtain ⟨b', off', e', d3, d4⟩ := hT.own.sl.two okG rfl gs0 (j := 1) (by simp) _ _ rfl
  cases e'
  have hm' : m = 2 := hm
  clear hm
  subst hm'
  simp at d1 d2 d3 d4
  have HT : Hid (Keeps no w w1 ∧ Sl TE w1 o1 c1 [tA] ∧ Sl TE w1 o2 c2 [tB, e0, tB]) := ⟨(((Keeps.refl _ _).alloc _).trans hT.kp), (hT.each 0 (by simp)).sl, (hT.each 1 (by simp)).sl⟩
  clear hT
  go_wp2_with fail
  refine (of_yes tB 64 (by decide) (by decide) _ (by decide)).mono ?_
  rintro e w' ⟨rfl, hw'⟩
  subst w'
  rw [pl_b64]
  go_wp2_with fail
  refine (sameK _ o1 1 c1 _ 1 1 [tA] rfl rfl (by decide) (HT.out.2.1.keepsN ((Keeps.refl _ _).alloc _)) (lit_many (E := TE) w1 [tA] _ rfl 1 rfl)).mono ?_
  rintro e w2 ⟨rfl, hk2⟩
  have q3 := hk2.cellN (cell_alloc d3 _)
  have q4 := hk2.cellN (cell_alloc d4 _)
  have HK2 : Hid (Keeps no w1 w2) := ((Keeps.refl _ _).alloc _).trans hk2
  clear hk2
  go_wp2_with fail
  refine (sameK _ o2 3 c2 _ 3 3 [tB, e0, tB] rfl rfl (by decide) ((HT.out.2.2.keepsN HK2.out).keepsN ((Keeps.refl _ _).alloc _)) (lit_many (E := TE) w2 [tB, e0, tB] _ rfl 3 rfl)).mono ?_
  rintro e w3 ⟨rfl, hk3⟩
  go_wp2_with fail
  go_ret
  exact ⟨rfl, HT.out.1.trans (HK2.out.trans (((Keeps.refl _ _).alloc _).trans hk3))⟩
end Go.Proofs.Ytlpfoieoopjmgaa
