/- Versions, pairs, events in memory. -/
import Derived.Test.YtjkljljmjjnneaaGreatDoorA0
import Derived.Laws.ResultCell
import Derived.Laws.Rows
import Derived.Laws.Bits128
namespace Go.Proofs.YtjkljljmjjnneaaGreatDoor
open Go.RowKit Go.Sort Orl
set_option linter.unusedVariables false
set_option linter.unusedSimpArgs false

theorem take_succ_getD {α : Type} (l : List α) (k : Nat) (d : α) (h : k < l.length) : l.take (k + 1) = l.take k ++ [l.getD k d] := by
  rw [List.take_add_one]; simp [h]
def inn (xs : List Tx) (s : Tx) : Bool := xs.any fun x => decide (x = s)
theorem inn_iff (xs : List Tx) (s : Tx) : inn xs s = true ↔ s ∈ xs := by
  unfold inn; rw [List.any_eq_true]; constructor
  · rintro ⟨x, hx, h⟩; rw [decide_eq_true_eq] at h; rwa [← h]
  · intro h; exact ⟨s, h, by simp⟩
theorem inn_no {xs : List Tx} {s : Tx} (h : s ∉ xs) : inn xs s = false := by
  rw [← Bool.not_eq_true, inn_iff]; exact h

/-! ### versions, as they are -/
structure Ver where
  key : Tx
  id : Nat
  val : Tx
  keys : List Tx
deriving DecidableEq
def v0 : Ver := ⟨e0, 0, e0, []⟩
/-- a version's own cells -/
structure RV where
  key : Tx
  id : Nat
  val : Tx
  o : Option Addr
  n : Nat
  c : Nat
def r0 : RV := ⟨e0, 0, e0, none, 0, 0⟩
def VE : El RV := ⟨56, 32, 4, 64, fun v => [.string v.key, .int .u64 (v.id : Nat), .string v.val, .slice v.o v.n v.c]⟩
theorem infoV : (Tryz.prog.info? 56).map (fun i => (i.zero, i.size, i.bytes)) = some (some (.agg #[.string ⟨#[]⟩, .int .u64 0, .string ⟨#[]⟩, .slice none 0 0]), 4, 64) := by kernel_rfl
theorem okV : VE.Ok := by
  obtain ⟨i0, hi, hz0, hz1, hz2⟩ := info_parts infoV
  exact ⟨fun _ => rfl, fun x u hu => by simp [VE] at hu; rcases hu with rfl | rfl | rfl | rfl <;> rfl, by decide, Tryz.underlying32, i0, _, hi, hz0, hz1, hz2, rfl⟩

theorem Sl.atV {w : World} {a : Option Addr} {c : Nat} {xs : List RV} (h : Sl VE w a c xs) {j : Nat} (hj : j < xs.length) : ∃ b off, a = some ⟨b, off, none⟩ ∧ w.cell? ⟨b, off + j * 4, none⟩ = some (.string (xs.getD j r0).key) ∧ w.cell? ⟨b, off + j * 4 + 1, none⟩ = some (.int .u64 ((xs.getD j r0).id : Nat)) ∧ w.cell? ⟨b, off + j * 4 + 2, none⟩ = some (.string (xs.getD j r0).val) ∧ w.cell? ⟨b, off + j * 4 + 3, none⟩ = some (.slice (xs.getD j r0).o (xs.getD j r0).n (xs.getD j r0).c) := by
  rcases h.row with e | ⟨b, off, rfl, hc⟩
  · subst e; simp at hj
  · refine ⟨b, off, rfl, hc (j * 4) _ ?_, ?_, ?_, ?_⟩
    · have := cells_at okV r0 xs j 0 hj (by decide)
      simpa [VE] using this
    all_goals rw [Nat.add_assoc]
    · refine hc (j * 4 + 1) _ ?_
      have := cells_at okV r0 xs j 1 hj (by decide)
      simpa [VE] using this
    · refine hc (j * 4 + 2) _ ?_
      have := cells_at okV r0 xs j 2 hj (by decide)
      simpa [VE] using this
    · refine hc (j * 4 + 3) _ ?_
      have := cells_at okV r0 xs j 3 hj (by decide)
      simpa [VE] using this

/-- a version as it is read out of its cells -/
structure VerOf (w : World) (r : RV) (v : Ver) : Prop where
  key : r.key = v.key
  id : r.id = v.id
  val : r.val = v.val
  n : r.n = v.keys.length
  sl : Sl TE w r.o r.c v.keys
theorem VerOf.keepsN {w w' : World} {r : RV} {v : Ver} (h : VerOf w r v) (k : Keeps no w w') : VerOf w' r v := ⟨h.key, h.id, h.val, h.n, h.sl.keepsN k⟩
theorem VerOf.keeps {S : Nat → Prop} {w w' : World} {r : RV} {v : Ver} (h : VerOf w r v) (k : Keeps S w w') (hs : ∀ i, inO r.o i → ¬ S i) : VerOf w' r v := ⟨h.key, h.id, h.val, h.n, h.sl.keeps k hs⟩
/-- versions in memory -/
structure Vers (w : World) (o : Option Addr) (c : Nat) (rs : List RV) (vs : List Ver) : Prop where
  sl : Sl VE w o c rs
  len : rs.length = vs.length
  each : ∀ j, j < vs.length → VerOf w (rs.getD j r0) (vs.getD j v0)
theorem Vers.keepsN {w w' : World} {o : Option Addr} {c : Nat} {rs : List RV} {vs : List Ver} (h : Vers w o c rs vs) (k : Keeps no w w') : Vers w' o c rs vs := ⟨h.sl.keepsN k, h.len, fun j hj => (h.each j hj).keepsN k⟩
/-- the j-th version -/
theorem Vers.at {w : World} {o : Option Addr} {c : Nat} {rs : List RV} {vs : List Ver} (h : Vers w o c rs vs) {j : Nat} (hj : j < vs.length) : ∃ (b off : Nat) (ro : Option Addr) (rn rc : Nat), o = some ⟨b, off, none⟩ ∧ w.cell? ⟨b, off + j * 4, none⟩ = some (.string (vs.getD j v0).key) ∧ w.cell? ⟨b, off + j * 4 + 1, none⟩ = some (.int .u64 ((vs.getD j v0).id : Nat)) ∧ w.cell? ⟨b, off + j * 4 + 2, none⟩ = some (.string (vs.getD j v0).val) ∧ w.cell? ⟨b, off + j * 4 + 3, none⟩ = some (.slice ro rn rc) ∧ rn = (vs.getD j v0).keys.length ∧ Sl TE w ro rc (vs.getD j v0).keys := by
  obtain ⟨b, off, e, c0, c1, c2, c3⟩ := h.sl.atV (j := j) (by rw [h.len]; exact hj)
  have hv := h.each j hj
  exact ⟨b, off, (rs.getD j r0).o, (rs.getD j r0).n, (rs.getD j r0).c, e, by rw [c0, hv.key], by rw [c1, hv.id], by rw [c2, hv.val], c3, hv.n, hv.sl⟩

/-- sizes -/
structure FitV (v : Ver) : Prop where
  id : v.id < 18446744073709551616
  key : v.key.size ≤ 140737488351232
  val : v.val.size ≤ 140737488351232
  len : v.keys.length ≤ 8796093022000
  keys : ∀ s ∈ v.keys, s.size ≤ 140737488351232
structure FitL (l : List Ver) : Prop where
  len : l.length ≤ 2199023255500
  each : ∀ v ∈ l, FitV v
theorem FitL.at {l : List Ver} (h : FitL l) {j : Nat} (hj : j < l.length) : FitV (l.getD j v0) := h.each _ (getD_mem_lt v0 hj)

/-- two results, the first a struct in a cell -/
theorem results_row2 {fn : Func} {p u : Tmp} {ty : TypeId} (h : fn.results = #[.cell p ty, .tmp u]) (tmps : Array Value) (w : World) (g : Nat) (cs : Array Value)
    (hp : tmps.getD p undef = .pointer (some ⟨g, 0, none⟩)) (hl : (loadVar ty ⟨g, 0, none⟩).run Tryz.prog w = .ok (.agg cs) w) :
    (results fn tmps).run Tryz.prog w = .ok (.tuple #[.agg cs, tmps.getD u undef]) w := by
  rw [results_cell_tmp h, hp]
  simp [asAddr, hl, Result.andThen]
/-- one result, a struct in a cell -/
theorem results_row1 {fn : Func} {p : Tmp} {ty : TypeId} (h : fn.results = #[.cell p ty]) (tmps : Array Value) (w : World) (g : Nat) (cs : Array Value)
    (hp : tmps.getD p undef = .pointer (some ⟨g, 0, none⟩)) (hl : (loadVar ty ⟨g, 0, none⟩).run Tryz.prog w = .ok (.agg cs) w) :
    (results fn tmps).run Tryz.prog w = .ok (.agg cs) w := by
  have hp' : tmps[p]?.getD undef = .pointer (some ⟨g, 0, none⟩) := by simpa using hp
  simp [results, h, hp', asAddr, hl]
theorem ver_size (a b c d : Value) : (Tryz.prog.info? 56).map (·.size) = some (#[a, b, c, d] : Array Value).size := by
  show _ = some 4
  kernel_rfl
theorem toList_inj (x y : Tx) : x.toList = y.toList ↔ x = y := by
  rw [Lib.toList_data, Lib.toList_data]
  exact ⟨tx_ext, fun e => by rw [e]⟩
abbrev Pr := ByteArray × ByteArray
def p0 : Pr := (e0, e0)
def PE : El Pr := ⟨49, 30, 2, 32, fun p => [.string p.1, .string p.2]⟩
theorem infoP : (Tryz.prog.info? 49).map (fun i => (i.zero, i.size, i.bytes)) = some (some (.agg #[.string ⟨#[]⟩, .string ⟨#[]⟩]), 2, 32) := by kernel_rfl
theorem okP : PE.Ok := by
  obtain ⟨i0, hi, hz0, hz1, hz2⟩ := info_parts infoP
  exact ⟨fun _ => rfl, fun x u hu => by simp [PE] at hu; rcases hu with rfl | rfl <;> rfl, by decide, Tryz.underlying30, i0, _, hi, hz0, hz1, hz2, rfl⟩
theorem Sl.atP {w : World} {a : Option Addr} {c : Nat} {xs : List Pr} (h : Sl PE w a c xs) {j : Nat} (hj : j < xs.length) : ∃ b off, a = some ⟨b, off, none⟩ ∧ w.cell? ⟨b, off + j * 2, none⟩ = some (.string (xs.getD j p0).1) ∧ w.cell? ⟨b, off + j * 2 + 1, none⟩ = some (.string (xs.getD j p0).2) := by
  rcases h.row with e | ⟨b, off, rfl, hc⟩
  · subst e; simp at hj
  · refine ⟨b, off, rfl, hc (j * 2) _ ?_, ?_⟩
    · have := cells_at okP p0 xs j 0 hj (by decide)
      simpa [PE] using this
    · rw [Nat.add_assoc]
      refine hc (j * 2 + 1) _ ?_
      have := cells_at okP p0 xs j 1 hj (by decide)
      simpa [PE] using this
/-! ### events -/
structure Ev where
  kind : Int
  client : Int
  txn : Int
  id : Nat
  pairs : List Pr
  keys : List Tx
  atxn : Int
  ares : Int
  aid : Nat
  vers : List Ver
deriving DecidableEq
def ev0 : Ev := ⟨0, 0, 0, 0, [], [], 0, 0, 0, []⟩
/-- an event's own cells -/
structure RE where
  kind : Int
  client : Int
  txn : Int
  id : Nat
  po : Option Addr
  pn : Nat
  pc : Nat
  ko : Option Addr
  kn : Nat
  kc : Nat
  atxn : Int
  ares : Int
  aid : Nat
  vo : Option Addr
  vn : Nat
  vc : Nat
def re0 : RE := ⟨0, 0, 0, 0, none, 0, 0, none, 0, 0, 0, 0, 0, none, 0, 0⟩
def cellsE (r : RE) : List Value := [.int .i64 r.kind, .int .i64 r.client, .int .i64 r.txn, .int .u64 (r.id : Nat), .slice r.po r.pn r.pc, .slice r.ko r.kn r.kc, .int .i64 r.atxn, .int .i64 r.ares, .int .u64 (r.aid : Nat), .slice r.vo r.vn r.vc]
def EE : El RE := ⟨36, 23, 10, 128, cellsE⟩
def aggE (r : RE) : Value := .agg (cellsE r).toArray
theorem infoE : (Tryz.prog.info? 36).map (fun i => (i.zero, i.size, i.bytes)) = some (some (.agg #[.int .i64 0, .int .i64 0, .int .i64 0, .int .u64 0, .slice none 0 0, .slice none 0 0, .int .i64 0, .int .i64 0, .int .u64 0, .slice none 0 0]), 10, 128) := by kernel_rfl
theorem okE : EE.Ok := by
  obtain ⟨i0, hi, hz0, hz1, hz2⟩ := info_parts infoE
  exact ⟨fun _ => rfl, fun x u hu => by simp [EE, cellsE] at hu; rcases hu with rfl | rfl | rfl | rfl | rfl | rfl | rfl | rfl | rfl | rfl <;> rfl, by decide, Tryz.underlying23, i0, _, hi, hz0, hz1, hz2, rfl⟩
/-- ten cells -/
structure At10 (w : World) (b off : Nat) (r : RE) : Prop where
  c0 : w.cell? ⟨b, off, none⟩ = some (.int .i64 r.kind)
  c1 : w.cell? ⟨b, off + 1, none⟩ = some (.int .i64 r.client)
  c2 : w.cell? ⟨b, off + 2, none⟩ = some (.int .i64 r.txn)
  c3 : w.cell? ⟨b, off + 3, none⟩ = some (.int .u64 (r.id : Nat))
  c4 : w.cell? ⟨b, off + 4, none⟩ = some (.slice r.po r.pn r.pc)
  c5 : w.cell? ⟨b, off + 5, none⟩ = some (.slice r.ko r.kn r.kc)
  c6 : w.cell? ⟨b, off + 6, none⟩ = some (.int .i64 r.atxn)
  c7 : w.cell? ⟨b, off + 7, none⟩ = some (.int .i64 r.ares)
  c8 : w.cell? ⟨b, off + 8, none⟩ = some (.int .u64 (r.aid : Nat))
  c9 : w.cell? ⟨b, off + 9, none⟩ = some (.slice r.vo r.vn r.vc)
theorem At10.keepsN {w w' : World} {b off : Nat} {r : RE} (h : At10 w b off r) (k : Keeps no w w') : At10 w' b off r :=
  ⟨k.cellN h.c0, k.cellN h.c1, k.cellN h.c2, k.cellN h.c3, k.cellN h.c4, k.cellN h.c5, k.cellN h.c6, k.cellN h.c7, k.cellN h.c8, k.cellN h.c9⟩
theorem Sl.atE {w : World} {a : Option Addr} {c : Nat} {xs : List RE} (h : Sl EE w a c xs) {j : Nat} (hj : j < xs.length) : ∃ b off, a = some ⟨b, off, none⟩ ∧ At10 w b (off + j * 10) (xs.getD j re0) := by
  rcases h.row with e | ⟨b, off, rfl, hc⟩
  · subst e; simp at hj
  · have key : ∀ k v, k < 10 → (cellsE (xs.getD j re0))[k]? = some v → w.cell? ⟨b, off + j * 10 + k, none⟩ = some v := fun k v hk hv => by
      rw [Nat.add_assoc]
      refine hc (j * 10 + k) _ ?_
      have h1 := cells_at okE re0 xs j k hj hk
      have h2 : (EE.enc (xs.getD j re0))[k]? = some v := hv
      rw [h2] at h1
      exact h1
    exact ⟨b, off, rfl, key 0 _ (by decide) rfl, key 1 _ (by decide) rfl, key 2 _ (by decide) rfl, key 3 _ (by decide) rfl, key 4 _ (by decide) rfl, key 5 _ (by decide) rfl, key 6 _ (by decide) rfl, key 7 _ (by decide) rfl, key 8 _ (by decide) rfl, key 9 _ (by decide) rfl⟩
/-- an event as it is read out of its cells -/
structure EvOf (w : World) (r : RE) (e : Ev) : Prop where
  kind : r.kind = e.kind
  client : r.client = e.client
  txn : r.txn = e.txn
  id : r.id = e.id
  pn : r.pn = e.pairs.length
  ps : Sl PE w r.po r.pc e.pairs
  kn : r.kn = e.keys.length
  ks : Sl TE w r.ko r.kc e.keys
  atxn : r.atxn = e.atxn
  ares : r.ares = e.ares
  aid : r.aid = e.aid
  vn : r.vn = e.vers.length
  vs : ∃ rv, Vers w r.vo r.vc rv e.vers
theorem EvOf.keepsN {w w' : World} {r : RE} {e : Ev} (h : EvOf w r e) (k : Keeps no w w') : EvOf w' r e :=
  ⟨h.kind, h.client, h.txn, h.id, h.pn, h.ps.keepsN k, h.kn, h.ks.keepsN k, h.atxn, h.ares, h.aid, h.vn, by obtain ⟨rv, h1⟩ := h.vs; exact ⟨rv, h1.keepsN k⟩⟩
/-- events in memory -/
structure Evs (w : World) (o : Option Addr) (c : Nat) (rs : List RE) (es : List Ev) : Prop where
  sl : Sl EE w o c rs
  len : rs.length = es.length
  each : ∀ j, j < es.length → EvOf w (rs.getD j re0) (es.getD j ev0)
theorem Evs.keepsN {w w' : World} {o : Option Addr} {c : Nat} {rs : List RE} {es : List Ev} (h : Evs w o c rs es) (k : Keeps no w w') : Evs w' o c rs es := ⟨h.sl.keepsN k, h.len, fun j hj => (h.each j hj).keepsN k⟩
/-- sizes: all are small -/
structure FitE (e : Ev) : Prop where
  kind : -9223372036854775808 ≤ e.kind ∧ e.kind < 9223372036854775808
  client : -9223372036854775808 ≤ e.client ∧ e.client < 9223372036854775808
  txn : -9223372036854775808 ≤ e.txn ∧ e.txn < 9223372036854775808
  atxn : -9223372036854775808 ≤ e.atxn ∧ e.atxn < 9223372036854775808
  ares : -9223372036854775808 ≤ e.ares ∧ e.ares < 9223372036854775808
  id : e.id < 18446744073709551616
  aid : e.aid < 18446744073709551616
  vid : ∀ v ∈ e.vers, v.id < 18446744073709551616
end Go.Proofs.YtjkljljmjjnneaaGreatDoor
