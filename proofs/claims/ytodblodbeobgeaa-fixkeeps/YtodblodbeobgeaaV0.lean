/- Versions and wants in memory. -/
import Derived.Test.YtodblodbeobgeaaA0
import Derived.Laws.ResultCell
import Derived.Laws.Rows
import Derived.Laws.Bits128
namespace Go.Proofs.Ytodblodbeobgeaa
open Go.RowKit Go.Sort Orl
set_option linter.unusedVariables false
set_option linter.unusedSimpArgs false

theorem take_succ_getD {α : Type} (l : List α) (k : Nat) (d : α) (h : k < l.length) : l.take (k + 1) = l.take k ++ [l.getD k d] := by
  rw [List.take_add_one]; simp [h]
def inn (xs : List Tx) (s : Tx) : Bool := xs.any fun x => decide (x = s)
theorem inn_iff (xs : List Tx) (s : Tx) : inn xs s = true ↔ s ∈ xs := by
  unfold inn; rw [List.any_eq_true]; constructor
  · rintro ⟨x, hx, h⟩; rw [decide_eq_true_eq] at h; rwa [← h]
  · intro h; exact ⟨s, h, by simp⟩
theorem inn_no {xs : List Tx} {s : Tx} (h : s ∉ xs) : inn xs s = false := by
  rw [← Bool.not_eq_true, inn_iff]; exact h

/-! ### versions, as they are -/
structure Ver where
  key : Tx
  id : Nat
  val : Tx
  keys : List Tx
deriving DecidableEq
def v0 : Ver := ⟨e0, 0, e0, []⟩
abbrev Wn := ByteArray × Nat
def w0' : Wn := (e0, 0)
def WE : El Wn := ⟨41, 33, 2, 24, fun p => [.string p.1, .int .u64 (p.2 : Nat)]⟩
theorem infoW : (Try.prog.info? 41).map (fun i => (i.zero, i.size, i.bytes)) = some (some (.agg #[.string ⟨#[]⟩, .int .u64 0]), 2, 24) := by kernel_rfl
theorem okW : WE.Ok := by
  obtain ⟨i0, hi, hz0, hz1, hz2⟩ := info_parts infoW
  exact ⟨fun _ => rfl, fun x u hu => by simp [WE] at hu; rcases hu with rfl | rfl <;> rfl, by decide, Try.underlying33, i0, _, hi, hz0, hz1, hz2, rfl⟩

/-- a version's own cells -/
structure RV where
  key : Tx
  id : Nat
  val : Tx
  o : Option Addr
  n : Nat
  c : Nat
def r0 : RV := ⟨e0, 0, e0, none, 0, 0⟩
def VE : El RV := ⟨32, 23, 4, 64, fun v => [.string v.key, .int .u64 (v.id : Nat), .string v.val, .slice v.o v.n v.c]⟩
theorem infoV : (Try.prog.info? 32).map (fun i => (i.zero, i.size, i.bytes)) = some (some (.agg #[.string ⟨#[]⟩, .int .u64 0, .string ⟨#[]⟩, .slice none 0 0]), 4, 64) := by kernel_rfl
theorem okV : VE.Ok := by
  obtain ⟨i0, hi, hz0, hz1, hz2⟩ := info_parts infoV
  exact ⟨fun _ => rfl, fun x u hu => by simp [VE] at hu; rcases hu with rfl | rfl | rfl | rfl <;> rfl, by decide, Try.underlying23, i0, _, hi, hz0, hz1, hz2, rfl⟩

theorem Sl.atW {w : World} {a : Option Addr} {c : Nat} {xs : List Wn} (h : Sl WE w a c xs) {j : Nat} (hj : j < xs.length) : ∃ b off, a = some ⟨b, off, none⟩ ∧ w.cell? ⟨b, off + j * 2, none⟩ = some (.string (xs.getD j w0').1) ∧ w.cell? ⟨b, off + j * 2 + 1, none⟩ = some (.int .u64 ((xs.getD j w0').2 : Nat)) := by
  rcases h.row with e | ⟨b, off, rfl, hc⟩
  · subst e; simp at hj
  · refine ⟨b, off, rfl, hc (j * 2) _ ?_, ?_⟩
    · have := cells_at okW w0' xs j 0 hj (by decide)
      simpa [WE] using this
    · rw [Nat.add_assoc]
      refine hc (j * 2 + 1) _ ?_
      have := cells_at okW w0' xs j 1 hj (by decide)
      simpa [WE] using this
theorem Sl.atV {w : World} {a : Option Addr} {c : Nat} {xs : List RV} (h : Sl VE w a c xs) {j : Nat} (hj : j < xs.length) : ∃ b off, a = some ⟨b, off, none⟩ ∧ w.cell? ⟨b, off + j * 4, none⟩ = some (.string (xs.getD j r0).key) ∧ w.cell? ⟨b, off + j * 4 + 1, none⟩ = some (.int .u64 ((xs.getD j r0).id : Nat)) ∧ w.cell? ⟨b, off + j * 4 + 2, none⟩ = some (.string (xs.getD j r0).val) ∧ w.cell? ⟨b, off + j * 4 + 3, none⟩ = some (.slice (xs.getD j r0).o (xs.getD j r0).n (xs.getD j r0).c) := by
  rcases h.row with e | ⟨b, off, rfl, hc⟩
  · subst e; simp at hj
  · refine ⟨b, off, rfl, hc (j * 4) _ ?_, ?_, ?_, ?_⟩
    · have := cells_at okV r0 xs j 0 hj (by decide)
      simpa [VE] using this
    all_goals rw [Nat.add_assoc]
    · refine hc (j * 4 + 1) _ ?_
      have := cells_at okV r0 xs j 1 hj (by decide)
      simpa [VE] using this
    · refine hc (j * 4 + 2) _ ?_
      have := cells_at okV r0 xs j 2 hj (by decide)
      simpa [VE] using this
    · refine hc (j * 4 + 3) _ ?_
      have := cells_at okV r0 xs j 3 hj (by decide)
      simpa [VE] using this

/-- a version as it is read out of its cells -/
structure VerOf (w : World) (r : RV) (v : Ver) : Prop where
  key : r.key = v.key
  id : r.id = v.id
  val : r.val = v.val
  n : r.n = v.keys.length
  sl : Sl TE w r.o r.c v.keys
theorem VerOf.keepsN {w w' : World} {r : RV} {v : Ver} (h : VerOf w r v) (k : Keeps no w w') : VerOf w' r v := ⟨h.key, h.id, h.val, h.n, h.sl.keepsN k⟩
theorem VerOf.keeps {S : Nat → Prop} {w w' : World} {r : RV} {v : Ver} (h : VerOf w r v) (k : Keeps S w w') (hs : ∀ i, inO r.o i → ¬ S i) : VerOf w' r v := ⟨h.key, h.id, h.val, h.n, h.sl.keeps k hs⟩
/-- versions in memory -/
structure Vers (w : World) (o : Option Addr) (c : Nat) (rs : List RV) (vs : List Ver) : Prop where
  sl : Sl VE w o c rs
  len : rs.length = vs.length
  each : ∀ j, j < vs.length → VerOf w (rs.getD j r0) (vs.getD j v0)
theorem Vers.keepsN {w w' : World} {o : Option Addr} {c : Nat} {rs : List RV} {vs : List Ver} (h : Vers w o c rs vs) (k : Keeps no w w') : Vers w' o c rs vs := ⟨h.sl.keepsN k, h.len, fun j hj => (h.each j hj).keepsN k⟩
/-- the j-th version -/
theorem Vers.at {w : World} {o : Option Addr} {c : Nat} {rs : List RV} {vs : List Ver} (h : Vers w o c rs vs) {j : Nat} (hj : j < vs.length) : ∃ (b off : Nat) (ro : Option Addr) (rn rc : Nat), o = some ⟨b, off, none⟩ ∧ w.cell? ⟨b, off + j * 4, none⟩ = some (.string (vs.getD j v0).key) ∧ w.cell? ⟨b, off + j * 4 + 1, none⟩ = some (.int .u64 ((vs.getD j v0).id : Nat)) ∧ w.cell? ⟨b, off + j * 4 + 2, none⟩ = some (.string (vs.getD j v0).val) ∧ w.cell? ⟨b, off + j * 4 + 3, none⟩ = some (.slice ro rn rc) ∧ rn = (vs.getD j v0).keys.length ∧ Sl TE w ro rc (vs.getD j v0).keys := by
  obtain ⟨b, off, e, c0, c1, c2, c3⟩ := h.sl.atV (j := j) (by rw [h.len]; exact hj)
  have hv := h.each j hj
  exact ⟨b, off, (rs.getD j r0).o, (rs.getD j r0).n, (rs.getD j r0).c, e, by rw [c0, hv.key], by rw [c1, hv.id], by rw [c2, hv.val], c3, hv.n, hv.sl⟩

/-- sizes -/
structure FitV (v : Ver) : Prop where
  id : v.id < 18446744073709551616
  key : v.key.size ≤ 140737488351232
  val : v.val.size ≤ 140737488351232
  len : v.keys.length ≤ 8796093022000
  keys : ∀ s ∈ v.keys, s.size ≤ 140737488351232
structure FitL (l : List Ver) : Prop where
  len : l.length ≤ 2199023255500
  each : ∀ v ∈ l, FitV v
theorem FitL.at {l : List Ver} (h : FitL l) {j : Nat} (hj : j < l.length) : FitV (l.getD j v0) := h.each _ (getD_mem_lt v0 hj)

/-- two results, the first a struct in a cell -/
theorem results_row2 {fn : Func} {p u : Tmp} {ty : TypeId} (h : fn.results = #[.cell p ty, .tmp u]) (tmps : Array Value) (w : World) (g : Nat) (cs : Array Value)
    (hp : tmps.getD p undef = .pointer (some ⟨g, 0, none⟩)) (hl : (loadVar ty ⟨g, 0, none⟩).run Try.prog w = .ok (.agg cs) w) :
    (results fn tmps).run Try.prog w = .ok (.tuple #[.agg cs, tmps.getD u undef]) w := by
  rw [results_cell_tmp h, hp]
  simp [asAddr, hl, Result.andThen]
/-- one result, a struct in a cell -/
theorem results_row1 {fn : Func} {p : Tmp} {ty : TypeId} (h : fn.results = #[.cell p ty]) (tmps : Array Value) (w : World) (g : Nat) (cs : Array Value)
    (hp : tmps.getD p undef = .pointer (some ⟨g, 0, none⟩)) (hl : (loadVar ty ⟨g, 0, none⟩).run Try.prog w = .ok (.agg cs) w) :
    (results fn tmps).run Try.prog w = .ok (.agg cs) w := by
  have hp' : tmps[p]?.getD undef = .pointer (some ⟨g, 0, none⟩) := by simpa using hp
  simp [results, h, hp', asAddr, hl]
theorem ver_size (a b c d : Value) : (Try.prog.info? 32).map (·.size) = some (#[a, b, c, d] : Array Value).size := by
  show _ = some 4
  kernel_rfl
theorem toList_inj (x y : Tx) : x.toList = y.toList ↔ x = y := by
  rw [Lib.toList_data, Lib.toList_data]
  exact ⟨tx_ext, fun e => by rw [e]⟩
end Go.Proofs.Ytodblodbeobgeaa
