/- '[]byte(s)', a byte written over, 'string(b)'. -/
import Derived.Test.YtjkljljmjjnneaaGreatDoorV0
import Derived.Lib.ConvBytes
import Derived.Laws.IdiomStrings
namespace Go.Proofs.YtjkljljmjjnneaaGreatDoor
open Go.RowKit Go.Sort Orl
set_option linter.unusedVariables false
set_option linter.unusedSimpArgs false

/-- a block that begins with these bytes -/
def BsIn (w : World) (B : Nat) (l : List UInt8) : Prop := ∃ (cur : Array Value) (a b : Nat), w.heap[B]? = some (.cells cur 5 (a, b)) ∧ (l.length ≤ a ∨ b = 0) ∧ l.length ≤ cur.size ∧ ∀ j, j < l.length → cur[j]? = some (.int .u8 ((l.getD j 0).toNat : Int))
theorem BsIn.cell {w : World} {B : Nat} {l : List UInt8} (h : BsIn w B l) {j : Nat} (hj : j < l.length) : w.cell? ⟨B, j, none⟩ = some (.int .u8 ((l.getD j 0).toNat : Int)) := by
  obtain ⟨cur, a, b, h1, _, _, h4⟩ := h
  rw [cell_of_blk h1, h4 j hj]
theorem BsIn.frozen {w : World} {B : Nat} {l : List UInt8} (h : BsIn w B l) {j : Nat} (hj : j < l.length) : w.frozen? ⟨B, j, none⟩ = false := by
  obtain ⟨cur, a, b, h1, h2, _, _⟩ := h
  simp only [World.frozen?, h1]
  rcases h2 with h2 | h2
  · have : ¬ (a ≤ j) := by omega
    simp [this]
  · subst h2; simp
theorem BsIn.keepsN {w w' : World} {B : Nat} {l : List UInt8} (h : BsIn w B l) (k : Keeps no w w') : BsIn w' B l := by
  obtain ⟨cur, a, b, h1, h2⟩ := h
  exact ⟨cur, a, b, k.at h1 id, h2⟩
theorem BsIn.lt {w : World} {B : Nat} {l : List UInt8} (h : BsIn w B l) : B < w.heap.size := by
  obtain ⟨cur, a, b, h1, _⟩ := h
  exact lt_of_block h1
theorem BsIn.set {w : World} {B : Nat} {l : List UInt8} (h : BsIn w B l) {k : Nat} (hk : k < l.length) (x : UInt8) : BsIn (w.setCell ⟨B, k, none⟩ (.int .u8 (x.toNat : Int))) B (l.set k x) := by
  obtain ⟨cur, a, b, h1, h2, h3, h4⟩ := h
  refine ⟨_, a, b, blk_set h1 k _, by rw [List.length_set]; exact h2, by rw [List.length_set, Array.size_setIfInBounds]; exact h3, fun j hj => ?_⟩
  rw [List.length_set] at hj
  rw [Array.getElem?_setIfInBounds]
  by_cases e : k = j
  · subst e
    rw [if_pos rfl, if_pos (by omega)]
    simp [List.getD_eq_getElem?_getD, hk]
  · rw [if_neg e, h4 j hj]
    simp [List.getD_eq_getElem?_getD, List.getElem?_set, e]
theorem bytesT (w : World) (s : ByteArray) : ∃ cb wb, (convert 9 69 (.string s)).run Tryz.prog w = .ok (.slice (some ⟨w.heap.size, 0, none⟩) s.size cb) wb ∧ BsIn wb w.heap.size s.data.toList ∧ Keeps no w wb := by
  have hr := Lib.run_convert_string_bytes (P := Tryz.prog) w 9 69 5 s Tryz.underlying9 Tryz.underlying69 Tryz.underlying5
  refine ⟨_, _, hr, ⟨_, _, _, Lib.bytesWorld_at_new w 5 s, .inl ?_, ?_, fun j hj => ?_⟩, ⟨rfl, rfl, rfl, by rw [Lib.bytesWorld_size]; omega, fun k hk _ => Lib.bytesWorld_at_old w 5 _ k hk⟩⟩
  · unfold Lib.bytesCells
    simp only [Array.size_append, Array.size_map, Array.length_toList]
    omega
  · unfold Lib.bytesCells
    simp only [Array.size_append, Array.size_map, Array.length_toList]
    omega
  · have := Lib.bytesWorld_cell w 5 s j (by simpa using hj)
    rw [cell_of_blk (Lib.bytesWorld_at_new w 5 s)] at this
    exact this
theorem BsIn.back {w : World} {B : Nat} {l : List UInt8} (h : BsIn w B l) (n c : Nat) (hn : n = l.length) : (convert 69 9 (.slice (some ⟨B, 0, none⟩) n c)).run Tryz.prog w = .ok (.string ⟨l.toArray⟩) w := by
  subst hn
  refine run_convert_bytes_back w 69 9 5 ⟨B, 0, none⟩ c l Tryz.underlying69 Tryz.underlying5 Tryz.underlying9 fun j hj => ?_
  have := h.cell hj
  rw [addr_add, Nat.zero_add, this]
  simp [List.getD_eq_getElem?_getD, hj]
end Go.Proofs.YtjkljljmjjnneaaGreatDoor
