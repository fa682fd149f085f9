/- The document's net: its smaller calls. -/
import Derived.Test.YtdbejihkliafiaaN1
import Derived.Deep.CutBlock
import Derived.Deep.CutRange
namespace Go.Proofs.Ytdbejihkliafiaa
open Go.RowKit Go.Sort
set_option linter.unusedVariables false
set_option linter.unusedSimpArgs false

def dC (P C : Int) (m : Nat) (v : Value) : Array Value := #[.int .i64 P, .int .i64 C, .int .i64 (m : Nat), v]
abbrev IsD : World → Nat → (Nat → Prop) → NS → Prop := Nt DE 71 dC
def DNewTo (w : World) (P C : Int) (e : Ending) (w' : World) : Prop :=
  (¬ (1 ≤ P ∧ P ≤ 64 ∧ 1 ≤ C ∧ C ≤ 16) → e = .returned (.tuple #[.pointer none, .int .i64 1]) ∧ Keeps no w w') ∧
  ((1 ≤ P ∧ P ≤ 64 ∧ 1 ≤ C ∧ C ≤ 16) → ∃ p F, e = .returned (.tuple #[.pointer (some ⟨p, 0, none⟩), .int .i64 0]) ∧ IsD w' p F (newS P C) ∧ (∀ i, F i → w.heap.size ≤ i) ∧ Keeps no w w')
theorem nt_new {E : El RF} {T : TypeId} {C : Int → Int → Nat → Value → Array Value} {w' : World} {p : Nat} {P Q : Int} (hb : w'.heap[p]? = some (.cells (C P Q 0 (.slice none 0 0)) T (0, 0))) : Nt E T C w' p (fun i => i = p) (newS P Q) :=
  ⟨none, 0, 0, [], hb, rfl, fs_nil w', rfl, fun i hi => by
    rcases hi with ⟨x, e, _⟩ | ⟨j, hj, _⟩
    · cases e
    · simp [newS] at hj, fun i hi => by subst hi; exact lt_of_block hb⟩
set_option maxRecDepth 10000 in
theorem dNew_any (w : World) (P C : Int) (hP : -9223372036854775808 ≤ P ∧ P ≤ 9223372036854775807) (hC : -9223372036854775808 ≤ C ∧ C ≤ 9223372036854775807) :
    Calls Try.prog 18 #[.int .i64 P, .int .i64 C] w (DNewTo w P C) := by
  have HA : Hid (¬ (1 ≤ P ∧ P ≤ 64 ∧ 1 ≤ C ∧ C ≤ 16) → ∀ w', Keeps no w w' → DNewTo w P C (.returned (.tuple #[.pointer none, .int .i64 1])) w') := fun h w' k => ⟨fun _ => ⟨rfl, k⟩, fun h' => absurd h' h⟩
  have HB : Hid ((1 ≤ P ∧ P ≤ 64 ∧ 1 ≤ C ∧ C ≤ 16) → DNewTo w P C (.returned (.tuple #[.pointer (some ⟨w.heap.size, 0, none⟩), .int .i64 0])) (w.alloc (.cells #[.int .i64 P, .int .i64 C, .int .i64 0, .slice none 0 0] 71))) := fun h => ⟨fun h' => absurd h h', fun _ => ⟨_, _, rfl, nt_new (C := dC) (blk_new w _), fun i hi => by subst hi; exact Nat.le_refl _, (Keeps.refl _ _).alloc _⟩⟩
  by_cases h1 : P < 1
  · have HH : Hid (DNewTo w P C (.returned (.tuple #[.pointer none, .int .i64 1])) w) := HA.out (by omega) w (Keeps.refl _ _)
    clear HA HB
    go_enter Try.func18, Try.ntmps18
    go_wp2_with fail
    go_ret2
    exact HH.out
  by_cases h2 : 64 < P
  · have HH : Hid (DNewTo w P C (.returned (.tuple #[.pointer none, .int .i64 1])) w) := HA.out (by omega) w (Keeps.refl _ _)
    clear HA HB
    go_enter Try.func18, Try.ntmps18
    go_wp2_with fail
    go_ret2
    exact HH.out
  by_cases h3 : C < 1
  · have HH : Hid (DNewTo w P C (.returned (.tuple #[.pointer none, .int .i64 1])) w) := HA.out (by omega) w (Keeps.refl _ _)
    clear HA HB
    go_enter Try.func18, Try.ntmps18
    go_wp2_with fail
    go_ret2
    exact HH.out
  by_cases h4 : 16 < C
  · have HH : Hid (DNewTo w P C (.returned (.tuple #[.pointer none, .int .i64 1])) w) := HA.out (by omega) w (Keeps.refl _ _)
    clear HA HB
    go_enter Try.func18, Try.ntmps18
    go_wp2_with fail
    go_ret2
    exact HH.out
  have HH : Hid (DNewTo w P C (.returned (.tuple #[.pointer (some ⟨w.heap.size, 0, none⟩), .int .i64 0])) (w.alloc (.cells #[.int .i64 P, .int .i64 C, .int .i64 0, .slice none 0 0] 71))) := HB.out (by omega)
  clear HA HB hP hC
  go_enter Try.func18, Try.ntmps18
  go_wp2_with fail
  go_ret2
  exact HH.out
theorem NtL.cells {w : World} {p : Nat} {F : Nat → Prop} {s : NS} {o : Option Addr} {n c : Nat} {rs : List RF} (h : NtL DE 71 dC w p F s o n c rs) : w.cell? ⟨p, 0, none⟩ = some (.int .i64 s.parts) ∧ w.cell? ⟨p, 1, none⟩ = some (.int .i64 s.clients) ∧ w.cell? ⟨p, 2, none⟩ = some (.int .i64 (s.num : Nat)) ∧ w.cell? ⟨p, 3, none⟩ = some (.slice o n c) :=
  ⟨by rw [cell_of_blk h.blk]; rfl, by rw [cell_of_blk h.blk]; rfl, by rw [cell_of_blk h.blk]; rfl, by rw [cell_of_blk h.blk]; rfl⟩
theorem dLen_any (w : World) (p : Nat) (F : Nat → Prop) (s : NS) (h : IsD w p F s) :
    Calls Try.prog 20 #[.pointer (some ⟨p, 0, none⟩)] w fun e w' => e = .returned (.int .i64 ((s.fl.length : Nat) : Int)) ∧ Keeps no w w' := by
  obtain ⟨o, n, c, rs, h⟩ := h
  obtain ⟨-, -, -, c3⟩ := h.cells
  have HN : Hid (n = s.fl.length) := h.n
  clear h
  go_enter Try.func20, Try.ntmps20
  go_wp2_with fail
  go_ret
  exact ⟨by show Ending.returned (.int .i64 ((n : Nat) : Int)) = _; rw [HN.out], Keeps.refl _ _⟩
theorem dNode_any (w : World) (p : Nat) (F : Nat → Prop) (s : NS) (K : Nat) (k : Int) (h : IsD w p F s) (hw : NWf s K) :
    Calls Try.prog 36 #[.pointer (some ⟨p, 0, none⟩), .int .i64 k] w fun e w' => e = .returned (.bool (nodeS s k)) ∧ w' = w := by
  obtain ⟨o, n, c, rs, h⟩ := h
  obtain ⟨c0, c1, -, -⟩ := h.cells
  have hc1 := hw.c1
  have hc2 := hw.c2
  clear h hw
  unfold nodeS
  generalize s.parts = P at *
  generalize s.clients = C at *
  by_cases h1 : k < P
  · by_cases h2 : -C ≤ k
    · have e : (decide (-C ≤ k) && decide (k < P)) = true := by simp [h1, h2]
      rw [e]
      clear e
      go_enter Try.func36, Try.ntmps36
      go_wp2_with fail
      go_ret
      exact ⟨rfl, rfl⟩
    · have e : (decide (-C ≤ k) && decide (k < P)) = false := by simp [h2]
      rw [e]
      clear e
      go_enter Try.func36, Try.ntmps36
      go_wp2_with fail
      go_ret
      exact ⟨rfl, rfl⟩
  · have e : (decide (-C ≤ k) && decide (k < P)) = false := by simp [h1]
    rw [e]
    clear e
    go_enter Try.func36, Try.ntmps36
    go_wp2_with fail
    go_ret
    exact ⟨rfl, rfl⟩
end Go.Proofs.Ytdbejihkliafiaa
