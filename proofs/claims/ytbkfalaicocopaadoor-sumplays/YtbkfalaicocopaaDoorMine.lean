import Derived.Test.YtbkfalaicocopaaDoorRows2
namespace Go.Proofs.YtbkfalaicocopaaDoor
open Go.RowKit
open Crc
set_option linter.unusedVariables false

/-- a row stands where its block stands -/
theorem Mine.same {base g c : Nat} {w w' : World} {bs : List Nat} (h : Mine base w g c bs) (hg : w'.heap[g]? = w.heap[g]?) : Mine base w' g c bs := by
  obtain ⟨h1, h2⟩ := h
  refine ⟨h1, ?_⟩
  rcases h2 with h | ⟨g', cap', cur, e, hbg, hh, hrest⟩
  · exact .inl h
  · have e' := e
    simp only [Value.slice.injEq, Option.some.injEq, Addr.mk.injEq, and_true, true_and] at e'
    obtain ⟨rfl, rfl⟩ := e'
    exact .inr ⟨g, c, cur, e, hbg, by rw [hg]; exact hh, hrest⟩

theorem Mine.other {base g c : Nat} {w : World} {bs : List Nat} (h : Mine base w g c bs) {p : Addr} (hp : g ≠ p.block) (u : Value) : Mine base (w.setCell p u) g c bs :=
  h.same (Below.heap_setCell _ _ _ _ hp)

theorem Mine.drew {base g c : Nat} {w : World} {bs : List Nat} (h : Mine base w g c bs) : Mine base w.drew g c bs := h.same rfl

theorem vals_set (bs : List Nat) (j v : Nat) : (vals bs).set j (.int .u8 (v : Nat)) = vals (bs.set j v) := by
  unfold vals
  rw [List.map_set]

theorem Mine.set {base g c : Nat} {w : World} {bs : List Nat} (h : Mine base w g c bs) (j v : Nat) : Mine base (w.setCell ⟨g, j, none⟩ (.int .u8 (v : Nat))) g c (bs.set j v) := by
  have := (World.ownsRow.stored h j (.int .u8 (v : Nat))).1
  rw [vals_set] at this
  unfold Mine
  rw [List.length_set]
  exact this

theorem Mine.cell {base g c : Nat} {w : World} {bs : List Nat} (h : Mine base w g c bs) (j : Nat) (hj : j < bs.length) : w.cell? ⟨g, j, none⟩ = some (.int .u8 (bs.getD j 0 : Nat)) := by
  rw [World.ownsRow.cellAt h j (by omega)]
  simp [vals, hj]

theorem Mine.free {base g c : Nat} {w : World} {bs : List Nat} (h : Mine base w g c bs) (j : Nat) : w.frozen? ⟨g, j, none⟩ = false := World.ownsRow.frozenAt h j

theorem Mine.lt {base g c : Nat} {w : World} {bs : List Nat} (h : Mine base w g c bs) : g < w.heap.size := by
  rcases h.2 with ⟨h, _⟩ | ⟨g', cap', cur, e, hbg, hh, hrest⟩
  · simp at h
  · simp only [Value.slice.injEq, Option.some.injEq, Addr.mk.injEq, and_true, true_and] at e
    obtain ⟨rfl, rfl⟩ := e
    rcases Nat.lt_or_ge g w.heap.size with h | h
    · exact h
    · rw [Array.getElem?_eq_none h] at hh; cases hh

theorem Mine.le {base g c : Nat} {w : World} {bs : List Nat} (h : Mine base w g c bs) : base ≤ g := by
  rcases h.2 with ⟨h, _⟩ | ⟨g', cap', cur, e, hbg, hh, hrest⟩
  · simp at h
  · simp only [Value.slice.injEq, Option.some.injEq, Addr.mk.injEq, and_true, true_and] at e
    obtain ⟨rfl, rfl⟩ := e
    exact hbg

theorem set_lt (bs : List Nat) (j v : Nat) (h : ∀ c ∈ bs, c < 256) (hv : v < 256) : ∀ c ∈ bs.set j v, c < 256 := by
  intro c hc
  rcases List.mem_or_eq_of_mem_set hc with h1 | h1
  · exact h c h1
  · omega

theorem zeros_made (k : Nat) : (madeCells (Value.int .u8 0).cells (k * 1)).toList = vals (List.replicate k 0) := by
  apply List.ext_getElem
  · simp [madeCells, vals]
  · intro i h1 h2
    have : i % 1 = 0 := Nat.mod_one i
    simp [madeCells, Value.cells, vals, this]

/-- eight bits of a byte, one turned -/
theorem xor8 (c t : Nat) (hc : c < 256) (ht : t < 8) : bits .xor .u8 (c : Int) ((2 ^ t : Nat) : Int) = ((c ^^^ 2 ^ t : Nat) : Int) := by
  have : (2 : Nat) ^ t < 256 := by
    have : (2 : Nat) ^ t ≤ 2 ^ 7 := Nat.pow_le_pow_right (by decide) (by omega)
    omega
  exact u8_xor_nat c _ hc this
theorem xor8_lt (c t : Nat) (hc : c < 256) (ht : t < 8) : c ^^^ 2 ^ t < 256 :=
  Nat.xor_lt_two_pow (n := 8) hc (Nat.pow_lt_pow_right (by decide) ht)
end Go.Proofs.YtbkfalaicocopaaDoor
