/- Two disks and two of the document's. -/
import Derived.Test.YtgobakfffobpkaaQ4
import Derived.Deep.RegionHeld3
namespace Go.Proofs.Ytgobakfffobpkaa
open Go.RowKit Dk
set_option linter.unusedVariables false
set_option linter.unusedSimpArgs false

theorem i64_and1 (n : Int) : bits .and .i64 n 1 = n % 2 := by
  have h1 : (BitVec.ofInt 64 1).toNat = 2 ^ 1 - 1 := by decide
  have key : (BitVec.ofInt 64 n &&& BitVec.ofInt 64 1).toNat = (n % ((2 ^ 64 : Nat) : Int)).toNat % 2 ^ 1 := by
    rw [BitVec.toNat_and, BitVec.toNat_ofInt, h1, Nat.and_two_pow_sub_one_eq_mod]
  show IntKind.i64.wrap ((BitVec.ofInt 64 n &&& BitVec.ofInt 64 1).toNat : Nat) = n % 2
  rw [key, IntKind.wrap_i64]
  omega
def upd {α : Type} (f : Nat → α) (i : Nat) (v : α) (j : Nat) : α := if j = i then v else f j
theorem upd_at {α : Type} (f : Nat → α) (i : Nat) (v : α) : upd f i v i = v := by simp [upd]
theorem upd_ne {α : Type} (f : Nat → α) {i j : Nat} (v : α) (h : j ≠ i) : upd f i v j = f j := by simp [upd, h]
def sel2 {α : Type} (a b : α) (j : Nat) : α := if j = 0 then a else b
/-- two disks and two of the document's, all new since w0; lists of them at A and at C -/
structure Quad (w0 w : World) (P R : Nat → Nat) (S : Nat → St) (F G : Nat → Nat → Prop) (A C : Nat) : Prop where
  a : ∀ i, i < 2 → IsD w (P i) (F i) (S i)
  b : ∀ i, i < 2 → IsR w (R i) (G i) (S i)
  ap : ∀ i, i < 2 → ∀ k, F i k → ¬ G i k
  cr : ∀ i j, i < 2 → j < 2 → i ≠ j → ∀ k, (F i k ∨ G i k) → ¬ (F j k ∨ G j k)
  nw : ∀ i, i < 2 → ∀ k, (F i k ∨ G i k) → w0.heap.size ≤ k
  ca : ∀ i, i < 2 → w.cell? ⟨A, i, none⟩ = some (.pointer (some ⟨P i, 0, none⟩))
  cc : ∀ i, i < 2 → w.cell? ⟨C, i, none⟩ = some (.pointer (some ⟨R i, 0, none⟩))
  na : ∀ i, i < 2 → ¬ (F i A ∨ G i A) ∧ ¬ (F i C ∨ G i C)
  lt : A < w.heap.size ∧ C < w.heap.size
  kept : Keeps no w0 w
theorem Quad.beside {w0 w w' : World} {P R : Nat → Nat} {S : Nat → St} {F G : Nat → Nat → Prop} {A C : Nat} (h : Quad w0 w P R S F G A C) (hk : Keeps no w w') : Quad w0 w' P R S F G A C :=
  ⟨fun i hi => (h.a i hi).keepsN hk, fun i hi => (h.b i hi).keepsN hk, h.ap, h.cr, h.nw, fun i hi => hk.cellN (h.ca i hi), fun i hi => hk.cellN (h.cc i hi), h.na, ⟨Nat.lt_of_lt_of_le h.lt.1 hk.size, Nat.lt_of_lt_of_le h.lt.2 hk.size⟩, h.kept.trans hk⟩
theorem Quad.step {w0 w w' : World} {P R : Nat → Nat} {S : Nat → St} {F G : Nat → Nat → Prop} {A C i : Nat} {s' : St} {F' G' : Nat → Prop} (h : Quad w0 w P R S F G A C) (hi : i < 2) (hp : Pair (F i) (G i) w w' (P i) s' (R i) s' F' G') : Quad w0 w' P R (upd S i s') (upd F i F') (upd G i G') A C := by
  have hs := h.kept.size
  have hU : ∀ k, (F' k ∨ G' k) → (F i k ∨ G i k) ∨ w.heap.size ≤ k := fun k hk => by
    rcases hk with h1 | h1
    · rcases hp.nf k h1 with h2 | h2
      · exact .inl (.inl h2)
      · exact .inr h2
    · rcases hp.ng k h1 with h2 | h2
      · exact .inl (.inr h2)
      · exact .inr h2
  have hl : ∀ j, j < 2 → ∀ k, (F j k ∨ G j k) → k < w.heap.size := fun j hj k hk => by
    rcases hk with h1 | h1
    · exact (h.a j hj).lt k h1
    · exact (h.b j hj).lt k h1
  refine ⟨fun j hj => ?_, fun j hj => ?_, fun j hj => ?_, fun j l hj hl2 hne k => ?_, fun j hj k => ?_, fun j hj => ?_, fun j hj => ?_, fun j hj => ?_, ⟨Nat.lt_of_lt_of_le h.lt.1 hp.kept.size, Nat.lt_of_lt_of_le h.lt.2 hp.kept.size⟩, h.kept.then hp.kept (fun k hk => .inr (h.nw i hi k hk))⟩
  · by_cases e : j = i
    · subst e; rw [upd_at, upd_at]; exact hp.a
    · rw [upd_ne _ _ e, upd_ne _ _ e]; exact (h.a j hj).keeps hp.kept (fun k h1 h2 => h.cr i j hi hj (Ne.symm e) k h2 (.inl h1))
  · by_cases e : j = i
    · subst e; rw [upd_at, upd_at]; exact hp.b
    · rw [upd_ne _ _ e, upd_ne _ _ e]; exact (h.b j hj).keeps hp.kept (fun k h1 h2 => h.cr i j hi hj (Ne.symm e) k h2 (.inr h1))
  · by_cases e : j = i
    · subst e; rw [upd_at, upd_at]; exact hp.ap
    · rw [upd_ne _ _ e, upd_ne _ _ e]; exact h.ap j hj
  · by_cases e : j = i
    · subst e
      rw [upd_at, upd_at, upd_ne _ _ (Ne.symm hne), upd_ne _ _ (Ne.symm hne)]
      intro h1 h2
      rcases hU k h1 with h3 | h3
      · exact h.cr j l hj hl2 hne k h3 h2
      · have := hl l hl2 k h2; omega
    · by_cases e2 : l = i
      · subst e2
        rw [upd_at, upd_at, upd_ne _ _ e, upd_ne _ _ e]
        intro h1 h2
        rcases hU k h2 with h3 | h3
        · exact h.cr j l hj hl2 hne k h1 h3
        · have := hl j hj k h1; omega
      · rw [upd_ne _ _ e, upd_ne _ _ e, upd_ne _ _ e2, upd_ne _ _ e2]
        exact h.cr j l hj hl2 hne k
  · by_cases e : j = i
    · subst e
      rw [upd_at, upd_at]
      intro h1
      rcases hU k h1 with h3 | h3
      · exact h.nw j hj k h3
      · omega
    · rw [upd_ne _ _ e, upd_ne _ _ e]; exact h.nw j hj k
  · exact hp.kept.cell (h.ca j hj) (h.na i hi).1
  · exact hp.kept.cell (h.cc j hj) (h.na i hi).2
  · by_cases e : j = i
    · subst e
      rw [upd_at, upd_at]
      refine ⟨fun h1 => ?_, fun h1 => ?_⟩
      · rcases hU A h1 with h3 | h3
        · exact (h.na j hj).1 h3
        · have := h.lt.1; omega
      · rcases hU C h1 with h3 | h3
        · exact (h.na j hj).2 h3
        · have := h.lt.2; omega
    · rw [upd_ne _ _ e, upd_ne _ _ e]; exact h.na j hj
theorem quad_new {w w1 w2 w3 w4 w5 : World} {p0 p1 r0 r1 : Nat} (k1 : Keeps no w w1) (h0 : IsD w2 p0 (fun k => w1.heap.size ≤ k ∧ k < w2.heap.size) Dk.new) (k2 : Keeps no w1 w2) (h1 : IsD w3 p1 (fun k => w2.heap.size ≤ k ∧ k < w3.heap.size) Dk.new) (k3 : Keeps no w2 w3)
    (h2 : IsR w4 r0 (fun k => (w3.alloc (.cells #[.pointer (some ⟨p0, 0, none⟩), .pointer (some ⟨p1, 0, none⟩)] 59)).heap.size ≤ k ∧ k < w4.heap.size) Dk.new) (k4 : Keeps no (w3.alloc (.cells #[.pointer (some ⟨p0, 0, none⟩), .pointer (some ⟨p1, 0, none⟩)] 59)) w4) (h3 : IsR w5 r1 (fun k => w4.heap.size ≤ k ∧ k < w5.heap.size) Dk.new) (k5 : Keeps no w4 w5) :
    ∃ F G, Quad w (w5.alloc (.cells #[.pointer (some ⟨r0, 0, none⟩), .pointer (some ⟨r1, 0, none⟩)] 62)) (sel2 p0 p1) (sel2 r0 r1) (fun _ => Dk.new) F G w3.heap.size w5.heap.size := by
  have ka := keeps_alloc w3 (.cells #[.pointer (some ⟨p0, 0, none⟩), .pointer (some ⟨p1, 0, none⟩)] 59)
  have kb := keeps_alloc w5 (.cells #[.pointer (some ⟨r0, 0, none⟩), .pointer (some ⟨r1, 0, none⟩)] 62)
  have s1 := k1.size
  have s2 := k2.size
  have s3 := k3.size
  have s4 := k4.size
  have s5 := k5.size
  simp only [World.size_alloc] at s4 h2
  have two : ∀ {i : Nat}, i < 2 → i = 0 ∨ i = 1 := fun h => by omega
  have kA : Keeps no w3 (w5.alloc (.cells #[.pointer (some ⟨r0, 0, none⟩), .pointer (some ⟨r1, 0, none⟩)] 62)) := ((ka.trans k4).trans k5).trans kb
  refine ⟨sel2 (fun k => w1.heap.size ≤ k ∧ k < w2.heap.size) (fun k => w2.heap.size ≤ k ∧ k < w3.heap.size), sel2 (fun k => w3.heap.size + 1 ≤ k ∧ k < w4.heap.size) (fun k => w4.heap.size ≤ k ∧ k < w5.heap.size), ?_, ?_, ?_, ?_, ?_, ?_, ?_, ?_, ?_, (((k1.trans k2).trans k3).trans kA)⟩
  · intro i hi
    rcases two hi with rfl | rfl
    · exact (h0.keepsN k3).keepsN kA
    · exact h1.keepsN kA
  · intro i hi
    rcases two hi with rfl | rfl
    · exact (h2.keepsN k5).keepsN kb
    · exact h3.keepsN kb
  · intro i hi
    rcases two hi with rfl | rfl <;> simp [sel2] <;> intros <;> omega
  · intro i j hi hj hne
    rcases two hi with rfl | rfl <;> rcases two hj with rfl | rfl <;> simp [sel2] at hne ⊢ <;> intros <;> omega
  · intro i hi
    rcases two hi with rfl | rfl <;> simp [sel2] <;> intros <;> omega
  · intro i hi
    have hb := (((k4.trans k5).trans kb).at (blk_new w3 _) id)
    rcases two hi with rfl | rfl
    · exact cell_of_blk hb 0
    · exact cell_of_blk hb 1
  · intro i hi
    have hb := blk_new w5 (.cells #[.pointer (some ⟨r0, 0, none⟩), .pointer (some ⟨r1, 0, none⟩)] 62)
    rcases two hi with rfl | rfl
    · exact cell_of_blk hb 0
    · exact cell_of_blk hb 1
  · intro i hi
    rcases two hi with rfl | rfl <;> simp [sel2] <;> omega
  · simp only [World.size_alloc]
    omega
theorem upd_room {M : Nat} {S : Nat → St} {i : Nat} {s' : St} (h : ∀ j, j < 2 → Room M (S j)) (h' : Room (M + 4194304) s') : ∀ j, j < 2 → Room (M + 4194304) (upd S i s' j) := fun j hj => by
  by_cases e : j = i
  · subst e; rw [upd_at]; exact h'
  · rw [upd_ne _ _ e]; exact (h j hj).mono (by omega)
end Go.Proofs.Ytgobakfffobpkaa
