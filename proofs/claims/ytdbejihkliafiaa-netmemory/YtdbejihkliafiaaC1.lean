/- The net's smaller calls: New, Len, has, isPart, isClient, joins. -/
import Derived.Test.YtdbejihkliafiaaW0
namespace Go.Proofs.Ytdbejihkliafiaa
open Go.RowKit Go.Sort
set_option linter.unusedVariables false
set_option linter.unusedSimpArgs false

def NewTo (Is : World → Nat → (Nat → Prop) → NS → Prop) (w : World) (P C : Int) (e : Ending) (w' : World) : Prop :=
  (¬ (1 ≤ P ∧ P ≤ 64 ∧ 1 ≤ C ∧ C ≤ 16) → e = .returned (.tuple #[.pointer none, .int .i64 1]) ∧ Keeps no w w') ∧
  ((1 ≤ P ∧ P ≤ 64 ∧ 1 ≤ C ∧ C ≤ 16) → ∃ p F, e = .returned (.tuple #[.pointer (some ⟨p, 0, none⟩), .int .i64 0]) ∧ Is w' p F (newS P C) ∧ (∀ i, F i → w.heap.size ≤ i) ∧ Keeps no w w')
theorem nu_new {w' : World} {p : Nat} {P Q : Int} (hb : w'.heap[p]? = some (.cells (nC P Q 0 (.slice none 0 0)) 62 (0, 0))) : IsN w' p (fun i => i = p) (newS P Q) :=
  ⟨none, 0, 0, hb, rfl, win_nil w', rfl, fun i hi => (by
    obtain ⟨x, e, _⟩ := hi; cases e), fun i hi => by subst hi; exact lt_of_block hb⟩
set_option maxRecDepth 10000 in
theorem nNew_any (w : World) (P C : Int) (hP : -9223372036854775808 ≤ P ∧ P ≤ 9223372036854775807) (hC : -9223372036854775808 ≤ C ∧ C ≤ 9223372036854775807) :
    Calls Try.prog 8 #[.int .i64 P, .int .i64 C] w (NewTo IsN w P C) := by
  have HA : Hid (¬ (1 ≤ P ∧ P ≤ 64 ∧ 1 ≤ C ∧ C ≤ 16) → ∀ w', Keeps no w w' → NewTo IsN w P C (.returned (.tuple #[.pointer none, .int .i64 1])) w') := fun h w' k => ⟨fun _ => ⟨rfl, k⟩, fun h' => absurd h' h⟩
  have HB : Hid ((1 ≤ P ∧ P ≤ 64 ∧ 1 ≤ C ∧ C ≤ 16) → NewTo IsN w P C (.returned (.tuple #[.pointer (some ⟨w.heap.size, 0, none⟩), .int .i64 0])) (w.alloc (.cells #[.int .i64 P, .int .i64 C, .int .i64 0, .slice none 0 0] 62))) := fun h => ⟨fun h' => absurd h h', fun _ => ⟨_, _, rfl, nu_new (blk_new w _), fun i hi => by subst hi; exact Nat.le_refl _, (Keeps.refl _ _).alloc _⟩⟩
  by_cases h1 : P < 1
  · have HH : Hid (NewTo IsN w P C (.returned (.tuple #[.pointer none, .int .i64 1])) w) := HA.out (by omega) w (Keeps.refl _ _)
    clear HA HB
    go_enter Try.func8, Try.ntmps8
    go_wp2_with fail
    go_ret2
    exact HH.out
  by_cases h2 : 64 < P
  · have HH : Hid (NewTo IsN w P C (.returned (.tuple #[.pointer none, .int .i64 1])) w) := HA.out (by omega) w (Keeps.refl _ _)
    clear HA HB
    go_enter Try.func8, Try.ntmps8
    go_wp2_with fail
    go_ret2
    exact HH.out
  by_cases h3 : C < 1
  · have HH : Hid (NewTo IsN w P C (.returned (.tuple #[.pointer none, .int .i64 1])) w) := HA.out (by omega) w (Keeps.refl _ _)
    clear HA HB
    go_enter Try.func8, Try.ntmps8
    go_wp2_with fail
    go_ret2
    exact HH.out
  by_cases h4 : 16 < C
  · have HH : Hid (NewTo IsN w P C (.returned (.tuple #[.pointer none, .int .i64 1])) w) := HA.out (by omega) w (Keeps.refl _ _)
    clear HA HB
    go_enter Try.func8, Try.ntmps8
    go_wp2_with fail
    go_ret2
    exact HH.out
  have HH : Hid (NewTo IsN w P C (.returned (.tuple #[.pointer (some ⟨w.heap.size, 0, none⟩), .int .i64 0])) (w.alloc (.cells #[.int .i64 P, .int .i64 C, .int .i64 0, .slice none 0 0] 62))) := HB.out (by omega)
  clear HA HB hP hC
  go_enter Try.func8, Try.ntmps8
  go_wp2_with fail
  go_ret2
  exact HH.out
theorem nLen_any (w : World) (p : Nat) (F : Nat → Prop) (s : NS) (h : IsN w p F s) :
    Calls Try.prog 11 #[.pointer (some ⟨p, 0, none⟩)] w fun e w' => e = .returned (.int .i64 ((s.fl.length : Nat) : Int)) ∧ Keeps no w w' := by
  obtain ⟨o, n, c, h⟩ := h
  obtain ⟨-, -, -, c3⟩ := h.cells
  have HN : Hid (n = s.fl.length) := h.n
  clear h
  go_enter Try.func11, Try.ntmps11
  go_wp2_with fail
  go_ret
  exact ⟨by show Ending.returned (.int .i64 ((n : Nat) : Int)) = _; rw [HN.out], Keeps.refl _ _⟩
theorem nHas_any (w : World) (p : Nat) (F : Nat → Prop) (s : NS) (pl : Int) (h : IsN w p F s) :
    Calls Try.prog 25 #[.pointer (some ⟨p, 0, none⟩), .int .i64 pl] w fun e w' => e = .returned (.bool (hasS s pl)) ∧ w' = w := by
  obtain ⟨o, n, c, h⟩ := h
  obtain ⟨-, -, -, c3⟩ := h.cells
  unfold hasS
  rw [← h.n]
  clear h
  by_cases h1 : pl < 0
  · have e : (decide (0 ≤ pl) && decide (pl < (n : Int))) = false := by simp; omega
    rw [e]
    clear e
    go_enter Try.func25, Try.ntmps25
    go_wp2_with fail
    go_ret
    exact ⟨rfl, rfl⟩
  · by_cases h2 : pl < (n : Int)
    · have e : (decide (0 ≤ pl) && decide (pl < (n : Int))) = true := by simp; omega
      rw [e]
      clear e
      go_enter Try.func25, Try.ntmps25
      go_wp2_with fail
      go_ret
      exact ⟨rfl, rfl⟩
    · have e : (decide (0 ≤ pl) && decide (pl < (n : Int))) = false := by simp; omega
      rw [e]
      clear e
      go_enter Try.func25, Try.ntmps25
      go_wp2_with fail
      go_ret
      exact ⟨rfl, rfl⟩
def partS (s : NS) (k : Int) : Bool := decide (0 ≤ k) && decide (k < s.parts)
def clientS (s : NS) (k : Int) : Bool := decide (k < 0) && decide (-s.clients ≤ k)
theorem nPart_any (w : World) (p : Nat) (F : Nat → Prop) (s : NS) (k : Int) (h : IsN w p F s) :
    Calls Try.prog 34 #[.pointer (some ⟨p, 0, none⟩), .int .i64 k] w fun e w' => e = .returned (.bool (partS s k)) ∧ w' = w := by
  obtain ⟨o, n, c, h⟩ := h
  obtain ⟨c0, -, -, -⟩ := h.cells
  clear h
  unfold partS
  generalize s.parts = P at *
  by_cases h1 : k < 0
  · have e : (decide (0 ≤ k) && decide (k < P)) = false := by simp; omega
    rw [e]
    clear e
    go_enter Try.func34, Try.ntmps34
    go_wp2_with fail
    go_ret
    exact ⟨rfl, rfl⟩
  · by_cases h2 : k < P
    · have e : (decide (0 ≤ k) && decide (k < P)) = true := by simp; omega
      rw [e]
      clear e
      go_enter Try.func34, Try.ntmps34
      go_wp2_with fail
      go_ret
      exact ⟨rfl, rfl⟩
    · have e : (decide (0 ≤ k) && decide (k < P)) = false := by simp; omega
      rw [e]
      clear e
      go_enter Try.func34, Try.ntmps34
      go_wp2_with fail
      go_ret
      exact ⟨rfl, rfl⟩
theorem nClient_any (w : World) (p : Nat) (F : Nat → Prop) (s : NS) (K : Nat) (k : Int) (h : IsN w p F s) (hw : NWf s K) :
    Calls Try.prog 33 #[.pointer (some ⟨p, 0, none⟩), .int .i64 k] w fun e w' => e = .returned (.bool (clientS s k)) ∧ w' = w := by
  obtain ⟨o, n, c, h⟩ := h
  obtain ⟨-, c1, -, -⟩ := h.cells
  have hc1 := hw.c1
  have hc2 := hw.c2
  clear h hw
  unfold clientS
  generalize s.clients = C at *
  by_cases h1 : k < 0
  · by_cases h2 : -C ≤ k
    · have e : (decide (k < 0) && decide (-C ≤ k)) = true := by simp [h1, h2]
      rw [e]
      clear e
      go_enter Try.func33, Try.ntmps33
      go_wp2_with fail
      go_ret
      exact ⟨rfl, rfl⟩
    · have e : (decide (k < 0) && decide (-C ≤ k)) = false := by simp [h2]
      rw [e]
      clear e
      go_enter Try.func33, Try.ntmps33
      go_wp2_with fail
      go_ret
      exact ⟨rfl, rfl⟩
  · have e : (decide (k < 0) && decide (-C ≤ k)) = false := by simp [h1]
    rw [e]
    clear e
    go_enter Try.func33, Try.ntmps33
    go_wp2_with fail
    go_ret
    exact ⟨rfl, rfl⟩
theorem can_eq {s : NS} {K : Nat} (hw : NWf s K) (a b : Int) : canS s a b = ((clientS s a && partS s b) || (partS s a && clientS s b)) := by
  have h1 := hw.p1
  have h2 := hw.c1
  unfold canS nodeS clientS partS
  generalize s.parts = P at *
  generalize s.clients = C at *
  rw [Bool.eq_iff_iff]
  simp only [Bool.and_eq_true, Bool.or_eq_true, decide_eq_true_eq, bne_iff_ne, ne_eq, decide_eq_decide]
  omega
theorem nJoins_any (w : World) (p : Nat) (F : Nat → Prop) (s : NS) (K : Nat) (a b : Int) (h : IsN w p F s) (hw : NWf s K) :
    Calls Try.prog 23 #[.pointer (some ⟨p, 0, none⟩), .int .i64 a, .int .i64 b] w fun e w' => e = .returned (.bool (canS s a b)) ∧ w' = w := by
  rw [can_eq hw a b]
  have H1 : Hid (Calls Try.prog 33 #[.pointer (some ⟨p, 0, none⟩), .int .i64 a] w fun e w' => e = .returned (.bool (clientS s a)) ∧ w' = w) := nClient_any w p F s K a h hw
  have H2 : Hid (Calls Try.prog 34 #[.pointer (some ⟨p, 0, none⟩), .int .i64 b] w fun e w' => e = .returned (.bool (partS s b)) ∧ w' = w) := nPart_any w p F s b h
  have H3 : Hid (Calls Try.prog 34 #[.pointer (some ⟨p, 0, none⟩), .int .i64 a] w fun e w' => e = .returned (.bool (partS s a)) ∧ w' = w) := nPart_any w p F s a h
  have H4 : Hid (Calls Try.prog 33 #[.pointer (some ⟨p, 0, none⟩), .int .i64 b] w fun e w' => e = .returned (.bool (clientS s b)) ∧ w' = w) := nClient_any w p F s K b h hw
  clear h hw
  generalize clientS s a = A1 at *
  generalize partS s b = B1 at *
  generalize partS s a = A2 at *
  generalize clientS s b = B2 at *
  go_enter Try.func23, Try.ntmps23
  go_wp2_with fail
  refine H1.out.mono ?_
  rintro e w' ⟨rfl, rfl⟩
  cases A1
  · go_wp2_with fail
    refine H3.out.mono ?_
    rintro e w' ⟨rfl, rfl⟩
    cases A2
    · go_wp2_with fail
      go_ret
      exact ⟨rfl, rfl⟩
    · go_wp2_with fail
      refine H4.out.mono ?_
      rintro e w' ⟨rfl, rfl⟩
      go_wp2_with fail
      go_ret
      exact ⟨by simp, rfl⟩
  · go_wp2_with fail
    refine H2.out.mono ?_
    rintro e w' ⟨rfl, rfl⟩
    cases B1
    · go_wp2_with fail
      refine H3.out.mono ?_
      rintro e w' ⟨rfl, rfl⟩
      cases A2
      · go_wp2_with fail
        go_ret
        exact ⟨rfl, rfl⟩
      · go_wp2_with fail
        refine H4.out.mono ?_
        rintro e w' ⟨rfl, rfl⟩
        go_wp2_with fail
        go_ret
        exact ⟨by simp, rfl⟩
    · go_wp2_with fail
      go_ret
      exact ⟨rfl, rfl⟩
end Go.Proofs.Ytdbejihkliafiaa
