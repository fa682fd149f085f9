import Derived.Test.YtagekdmkidbhpaaC3
/- Results in cells; structs stored whole. -/
namespace Go.Proofs.Ytagekdmkidbhpaa
open Go.RowKit Go.Maps
set_option linter.unusedVariables false
set_option linter.unusedSimpArgs false
theorem results_row2 {fn : Func} {p u : Tmp} {ty : TypeId} (h : fn.results = #[.cell p ty, .tmp u]) (tmps : Array Value) (w : World) (g : Nat) (cs : Array Value)
    (hp : tmps.getD p undef = .pointer (some ⟨g, 0, none⟩)) (hl : (loadVar ty ⟨g, 0, none⟩).run Try.prog w = .ok (.agg cs) w) :
    (results fn tmps).run Try.prog w = .ok (.tuple #[.agg cs, tmps.getD u undef]) w := by
  rw [results_cell_tmp h, hp]
  simp [asAddr, hl, Result.andThen]
theorem results_row1 {fn : Func} {p : Tmp} {ty : TypeId} (h : fn.results = #[.cell p ty]) (tmps : Array Value) (w : World) (g : Nat) (cs : Array Value)
    (hp : tmps.getD p undef = .pointer (some ⟨g, 0, none⟩)) (hl : (loadVar ty ⟨g, 0, none⟩).run Try.prog w = .ok (.agg cs) w) :
    (results fn tmps).run Try.prog w = .ok (.agg cs) w := by
  have hp' : tmps[p]?.getD undef = .pointer (some ⟨g, 0, none⟩) := by simpa using hp
  simp [results, h, hp', asAddr, hl]
theorem sizeV (a b c d : Value) : (Try.prog.info? 60).map (·.size) = some (#[a, b, c, d] : Array Value).size := by
  show _ = some 4
  kernel_rfl
theorem sizeK (a b c d e : Value) : (Try.prog.info? 71).map (·.size) = some (#[a, b, c, d, e] : Array Value).size := by
  show _ = some 5
  kernel_rfl
theorem loadV {w : World} {g : Nat} {a b c d : Value} (h : w.heap[g]? = some (.cells #[a, b, c, d] 60 (0, 0))) : (loadVar 60 ⟨g, 0, none⟩).run Try.prog w = .ok (.agg #[a, b, c, d]) w := run_loadVar_row _ _ _ _ _ _ _ h Try.underlying60 rfl (sizeV _ _ _ _)
theorem loadK {w : World} {g : Nat} {a b c d e : Value} (h : w.heap[g]? = some (.cells #[a, b, c, d, e] 71 (0, 0))) : (loadVar 71 ⟨g, 0, none⟩).run Try.prog w = .ok (.agg #[a, b, c, d, e]) w := run_loadVar_row _ _ _ _ _ _ _ h Try.underlying71 rfl (sizeK _ _ _ _ _)
def eqA (g : Nat) : Nat → Prop := fun k => k = g
theorem Keeps.setA {a w : World} {g : Nat} (h : Keeps (eqA g) a w) (i : Nat) (u : Value) : Keeps (eqA g) a (w.setCell ⟨g, i, none⟩ u) := h.setCell (p := ⟨g, i, none⟩) (.inl rfl) u
def set4w (w : World) (g : Nat) (a0 a1 a2 a3 : Value) : World := (((w.setCell ⟨g, 0, none⟩ a0).setCell ⟨g, 1, none⟩ a1).setCell ⟨g, 2, none⟩ a2).setCell ⟨g, 3, none⟩ a3
def set5w (w : World) (g : Nat) (a0 a1 a2 a3 a4 : Value) : World := ((((w.setCell ⟨g, 0, none⟩ a0).setCell ⟨g, 1, none⟩ a1).setCell ⟨g, 2, none⟩ a2).setCell ⟨g, 3, none⟩ a3).setCell ⟨g, 4, none⟩ a4
theorem set4 {w : World} {g : Nat} {z0 z1 z2 z3 : Value} {t : TypeId} (h : w.heap[g]? = some (.cells #[z0, z1, z2, z3] t (0, 0))) (a0 a1 a2 a3 : Value) :
    (set4w w g a0 a1 a2 a3).heap[g]? = some (.cells #[a0, a1, a2, a3] t (0, 0)) ∧ Keeps (eqA g) w (set4w w g a0 a1 a2 a3) := by
  unfold set4w
  have h1 : (w.setCell ⟨g, 0, none⟩ a0).heap[g]? = some (.cells #[a0, z1, z2, z3] t (0, 0)) := by rw [blk_set h 0 a0]; rfl
  have h2 : ((w.setCell ⟨g, 0, none⟩ a0).setCell ⟨g, 1, none⟩ a1).heap[g]? = some (.cells #[a0, a1, z2, z3] t (0, 0)) := by rw [blk_set h1 1 a1]; rfl
  have h3 : (((w.setCell ⟨g, 0, none⟩ a0).setCell ⟨g, 1, none⟩ a1).setCell ⟨g, 2, none⟩ a2).heap[g]? = some (.cells #[a0, a1, a2, z3] t (0, 0)) := by rw [blk_set h2 2 a2]; rfl
  exact ⟨by rw [blk_set h3 3 a3]; rfl, ((((Keeps.refl (eqA g) w).setA 0 a0).setA 1 a1).setA 2 a2).setA 3 a3⟩
theorem set5 {w : World} {g : Nat} {z0 z1 z2 z3 z4 : Value} {t : TypeId} (h : w.heap[g]? = some (.cells #[z0, z1, z2, z3, z4] t (0, 0))) (a0 a1 a2 a3 a4 : Value) :
    (set5w w g a0 a1 a2 a3 a4).heap[g]? = some (.cells #[a0, a1, a2, a3, a4] t (0, 0)) ∧ Keeps (eqA g) w (set5w w g a0 a1 a2 a3 a4) := by
  unfold set5w
  have h1 : (w.setCell ⟨g, 0, none⟩ a0).heap[g]? = some (.cells #[a0, z1, z2, z3, z4] t (0, 0)) := by rw [blk_set h 0 a0]; rfl
  have h2 : ((w.setCell ⟨g, 0, none⟩ a0).setCell ⟨g, 1, none⟩ a1).heap[g]? = some (.cells #[a0, a1, z2, z3, z4] t (0, 0)) := by rw [blk_set h1 1 a1]; rfl
  have h3 : (((w.setCell ⟨g, 0, none⟩ a0).setCell ⟨g, 1, none⟩ a1).setCell ⟨g, 2, none⟩ a2).heap[g]? = some (.cells #[a0, a1, a2, z3, z4] t (0, 0)) := by rw [blk_set h2 2 a2]; rfl
  have h4 : ((((w.setCell ⟨g, 0, none⟩ a0).setCell ⟨g, 1, none⟩ a1).setCell ⟨g, 2, none⟩ a2).setCell ⟨g, 3, none⟩ a3).heap[g]? = some (.cells #[a0, a1, a2, a3, z4] t (0, 0)) := by rw [blk_set h3 3 a3]; rfl
  exact ⟨by rw [blk_set h4 4 a4]; rfl, (((((Keeps.refl (eqA g) w).setA 0 a0).setA 1 a1).setA 2 a2).setA 3 a3).setA 4 a4⟩

/-- what every version keeps to -/
structure OkV (s : St) : Prop where
  keys : ∀ m v, s.V m = some v → okKeys v.keys = true ∧ m.1 ∈ v.keys ∧ v.val.size ≤ 65535
  id : ∀ m v, s.V m = some v → 65536 ≤ m.2 ∧ m.2 < 18446744073709551616
structure Ok (s : St) : Prop where
  v : OkV s
  st : ∀ m v, s.V m = some v → (m.2 < s.last m.1 → 0 ≤ v.stamp ∧ v.stamp ≤ 1099511627776) ∧ (¬ m.2 < s.last m.1 → v.stamp = -1)
  la : ∀ k, s.last k ≠ 0 → s.V (k, s.last k) ≠ none
theorem OkV.size {s : St} (h : OkV s) {m : Mk} {v : Vr} (hv : s.V m = some v) : m.1.size ≤ 65535 := (okKeys_iff.1 (h.keys m v hv).1).2.1 _ (h.keys m v hv).2.1
theorem OkV.len {s : St} (h : OkV s) {m : Mk} {v : Vr} (hv : s.V m = some v) : v.keys.length ≤ 1024 := (okKeys_iff.1 (h.keys m v hv).1).1.2
theorem Ok.last_lt {s : St} (h : Ok s) (k : Tx) : s.last k < 18446744073709551616 := by
  by_cases e : s.last k = 0
  · omega
  · have := h.la k e
    cases hv : s.V (k, s.last k) with
    | none => exact absurd hv this
    | some v => exact (h.v.id _ v hv).2
end Go.Proofs.Ytagekdmkidbhpaa
