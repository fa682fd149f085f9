/- Records in memory. -/
import Derived.Test.YtgamhblkgojapaaGreatDoorQ1
import Derived.Laws.ResultCell
import Derived.Laws.Rows
namespace Go.Proofs.YtgamhblkgojapaaGreatDoor
open Go.RowKit Go.Sort Orl Pk
set_option linter.unusedVariables false
set_option linter.unusedSimpArgs false

/-- a record's own cells -/
structure CV where
  k : Int
  i : Nat
  op : Option Addr
  np : Nat
  cp : Nat
  ok : Option Addr
  nk : Nat
  ck : Nat
def cv0 : CV := ⟨0, 0, none, 0, 0, none, 0, 0⟩
def CE : El CV := ⟨41, 29, 4, 64, fun v => [.int .i64 v.k, .int .u64 (v.i : Nat), .slice v.op v.np v.cp, .slice v.ok v.nk v.ck]⟩
theorem infoC : (Tryz.prog.info? 41).map (fun i => (i.zero, i.size, i.bytes)) = some (some (.agg #[.int .i64 0, .int .u64 0, .slice none 0 0, .slice none 0 0]), 4, 64) := by kernel_rfl
theorem okC : CE.Ok := by
  obtain ⟨i0, hi, hz0, hz1, hz2⟩ := info_parts infoC
  exact ⟨fun _ => rfl, fun x u hu => by simp [CE] at hu; rcases hu with rfl | rfl | rfl | rfl <;> rfl, by decide, Tryz.underlying29, i0, _, hi, hz0, hz1, hz2, rfl⟩
/-- sizes of all that a record holds -/
structure FitR (r : Rec) : Prop where
  klen : r.keys.length ≤ 8796093022000
  keys : ∀ s ∈ r.keys, s.size ≤ 140737488351232
  plen : r.pairs.length ≤ 4398046511000
  pairs : ∀ p ∈ r.pairs, p.1.size ≤ 140737488351232 ∧ p.2.size ≤ 140737488351232
  k1 : -9223372036854775808 ≤ r.kind
  k2 : r.kind ≤ 9223372036854775807
  id : r.id < 18446744073709551616
/-- a record as a value: its numbers, its lists -/
structure IsC (w : World) (v : CV) (r : Rec) : Prop where
  k : v.k = r.kind
  i : v.i = r.id
  np : v.np = r.pairs.length
  nk : v.nk = r.keys.length
  prs : Sl PE w v.op v.cp r.pairs
  kys : Sl TE w v.ok v.ck r.keys
  fit : FitR r
theorem IsC.keepsN {w w' : World} {v : CV} {r : Rec} (h : IsC w v r) (kp : Keeps no w w') : IsC w' v r :=
  ⟨h.k, h.i, h.np, h.nk, h.prs.keepsN kp, h.kys.keepsN kp, h.fit⟩
theorem IsC.keeps {S : Nat → Prop} {w w' : World} {v : CV} {r : Rec} (h : IsC w v r) (kp : Keeps S w w') (h1 : ∀ k, inO v.op k → ¬ S k) (h2 : ∀ k, inO v.ok k → ¬ S k) : IsC w' v r :=
  ⟨h.k, h.i, h.np, h.nk, h.prs.keeps kp h1, h.kys.keeps kp h2, h.fit⟩
/-- two results, the first a struct in a cell -/
theorem results_row2 {fn : Func} {p u : Tmp} {ty : TypeId} (h : fn.results = #[.cell p ty, .tmp u]) (tmps : Array Value) (w : World) (g : Nat) (cs : Array Value)
    (hp : tmps.getD p undef = .pointer (some ⟨g, 0, none⟩)) (hl : (loadVar ty ⟨g, 0, none⟩).run Tryz.prog w = .ok (.agg cs) w) :
    (results fn tmps).run Tryz.prog w = .ok (.tuple #[.agg cs, tmps.getD u undef]) w := by
  rw [results_cell_tmp h, hp]
  simp [asAddr, hl, Result.andThen]
/-- one result, a struct in a cell -/
theorem results_row1 {fn : Func} {p : Tmp} {ty : TypeId} (h : fn.results = #[.cell p ty]) (tmps : Array Value) (w : World) (g : Nat) (cs : Array Value)
    (hp : tmps.getD p undef = .pointer (some ⟨g, 0, none⟩)) (hl : (loadVar ty ⟨g, 0, none⟩).run Tryz.prog w = .ok (.agg cs) w) :
    (results fn tmps).run Tryz.prog w = .ok (.agg cs) w := by
  have hp' : tmps[p]?.getD undef = .pointer (some ⟨g, 0, none⟩) := by simpa using hp
  simp [results, h, hp', asAddr, hl]
theorem results_row3 {fn : Func} {p u v : Tmp} {ty : TypeId} (h : fn.results = #[.cell p ty, .tmp u, .tmp v]) (tmps : Array Value) (w : World) (g : Nat) (cs : Array Value)
    (hp : tmps.getD p undef = .pointer (some ⟨g, 0, none⟩)) (hl : (loadVar ty ⟨g, 0, none⟩).run Tryz.prog w = .ok (.agg cs) w) :
    (results fn tmps).run Tryz.prog w = .ok (.tuple #[.agg cs, tmps.getD u undef, tmps.getD v undef]) w := by
  have hp' : tmps[p]?.getD undef = .pointer (some ⟨g, 0, none⟩) := by simpa using hp
  simp [results, h, hp', asAddr, hl]
theorem rec_size (a b c d : Value) : (Tryz.prog.info? 41).map (·.size) = some (#[a, b, c, d] : Array Value).size := by
  show _ = some 4
  kernel_rfl
theorem loadR {w : World} {g : Nat} {a0 a1 a2 a3 : Value} (h : w.heap[g]? = some (.cells #[a0, a1, a2, a3] 41 (0, 0))) : (loadVar 41 ⟨g, 0, none⟩).run Tryz.prog w = .ok (.agg #[a0, a1, a2, a3]) w :=
  run_loadVar_row _ _ _ _ _ _ _ h Tryz.underlying41 rfl (rec_size _ _ _ _)
theorem cells2 {w : World} {g : Nat} {a0 a1 : Value} {t : TypeId} {fr : Nat × Nat} (h : w.heap[g]? = some (.cells #[a0, a1] t fr)) :
    w.cell? ⟨g, 0, none⟩ = some a0 ∧ w.cell? ⟨g, 1, none⟩ = some a1 := ⟨cell_of_blk h 0, cell_of_blk h 1⟩
theorem cells4 {w : World} {g : Nat} {a0 a1 a2 a3 : Value} {t : TypeId} {fr : Nat × Nat} (h : w.heap[g]? = some (.cells #[a0, a1, a2, a3] t fr)) :
    w.cell? ⟨g, 0, none⟩ = some a0 ∧ w.cell? ⟨g, 1, none⟩ = some a1 ∧ w.cell? ⟨g, 2, none⟩ = some a2 ∧ w.cell? ⟨g, 3, none⟩ = some a3 := ⟨cell_of_blk h 0, cell_of_blk h 1, cell_of_blk h 2, cell_of_blk h 3⟩
set_option linter.unusedVariables false
set_option linter.unusedSimpArgs false

theorem Keeps.setA {g : Nat} {a w : World} (h : Keeps (eqA g) a w) (i : Nat) (u : Value) : Keeps (eqA g) a (w.setCell ⟨g, i, none⟩ u) := h.setCell (p := ⟨g, i, none⟩) (.inl rfl) u
theorem set4 {w : World} {g : Nat} {z0 z1 z2 z3 : Value} {t : TypeId} (h : w.heap[g]? = some (.cells #[z0, z1, z2, z3] t (0, 0))) (a0 a1 a2 a3 : Value) :
    ((((w.setCell ⟨g, 0, none⟩ a0).setCell ⟨g, 1, none⟩ a1).setCell ⟨g, 2, none⟩ a2).setCell ⟨g, 3, none⟩ a3).heap[g]? = some (.cells #[a0, a1, a2, a3] t (0, 0)) ∧ Keeps (eqA g) w ((((w.setCell ⟨g, 0, none⟩ a0).setCell ⟨g, 1, none⟩ a1).setCell ⟨g, 2, none⟩ a2).setCell ⟨g, 3, none⟩ a3) := by
  refine ⟨?_, ((((Keeps.refl (eqA g) w).setA _ _).setA _ _).setA _ _).setA _ _⟩
  rw [blk_set (blk_set (blk_set (blk_set h 0 a0) 1 a1) 2 a2) 3 a3]
  rfl
end Go.Proofs.YtgamhblkgojapaaGreatDoor
