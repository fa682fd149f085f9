/- Messages in memory: wants, versions; a message's lists. -/
import Derived.Test.YtjklpcamlppegaaGreatMt
import Derived.Laws.ResultCell
import Derived.Laws.Rows
namespace Go.Proofs.YtjklpcamlppegaaGreat
open Go.RowKit Go.Sort Orl Pk
set_option linter.unusedVariables false
set_option linter.unusedSimpArgs false

abbrev Wn := ByteArray × Nat
def w0' : Wn := (e0, 0)
def WE : El Wn := ⟨53, 26, 2, 24, fun p => [.string p.1, .int .u64 (p.2 : Nat)]⟩
theorem infoW : (Tryz.prog.info? 53).map (fun i => (i.zero, i.size, i.bytes)) = some (some (.agg #[.string ⟨#[]⟩, .int .u64 0]), 2, 24) := by kernel_rfl
theorem okW : WE.Ok := by
  obtain ⟨i0, hi, hz0, hz1, hz2⟩ := info_parts infoW
  exact ⟨fun _ => rfl, fun x u hu => by simp [WE] at hu; rcases hu with rfl | rfl <;> rfl, by decide, Tryz.underlying26, i0, _, hi, hz0, hz1, hz2, rfl⟩

/-- a version's own cells -/
structure RV where
  key : Tx
  id : Nat
  val : Tx
  o : Option Addr
  n : Nat
  c : Nat
def r0 : RV := ⟨e0, 0, e0, none, 0, 0⟩
def VE : El RV := ⟨46, 27, 4, 64, fun v => [.string v.key, .int .u64 (v.id : Nat), .string v.val, .slice v.o v.n v.c]⟩
theorem infoV : (Tryz.prog.info? 46).map (fun i => (i.zero, i.size, i.bytes)) = some (some (.agg #[.string ⟨#[]⟩, .int .u64 0, .string ⟨#[]⟩, .slice none 0 0]), 4, 64) := by kernel_rfl
theorem okV : VE.Ok := by
  obtain ⟨i0, hi, hz0, hz1, hz2⟩ := info_parts infoV
  exact ⟨fun _ => rfl, fun x u hu => by simp [VE] at hu; rcases hu with rfl | rfl | rfl | rfl <;> rfl, by decide, Tryz.underlying27, i0, _, hi, hz0, hz1, hz2, rfl⟩

theorem Sl.atW {w : World} {a : Option Addr} {c : Nat} {xs : List Wn} (h : Sl WE w a c xs) {j : Nat} (hj : j < xs.length) : ∃ b off, a = some ⟨b, off, none⟩ ∧ w.cell? ⟨b, off + j * 2, none⟩ = some (.string (xs.getD j w0').1) ∧ w.cell? ⟨b, off + j * 2 + 1, none⟩ = some (.int .u64 ((xs.getD j w0').2 : Nat)) := by
  rcases h.row with e | ⟨b, off, rfl, hc⟩
  · subst e; simp at hj
  · refine ⟨b, off, rfl, hc (j * 2) _ ?_, ?_⟩
    · have := cells_at okW w0' xs j 0 hj (by decide)
      simpa [WE] using this
    · rw [Nat.add_assoc]
      refine hc (j * 2 + 1) _ ?_
      have := cells_at okW w0' xs j 1 hj (by decide)
      simpa [WE] using this
theorem Sl.atV {w : World} {a : Option Addr} {c : Nat} {xs : List RV} (h : Sl VE w a c xs) {j : Nat} (hj : j < xs.length) : ∃ b off, a = some ⟨b, off, none⟩ ∧ w.cell? ⟨b, off + j * 4, none⟩ = some (.string (xs.getD j r0).key) ∧ w.cell? ⟨b, off + j * 4 + 1, none⟩ = some (.int .u64 ((xs.getD j r0).id : Nat)) ∧ w.cell? ⟨b, off + j * 4 + 2, none⟩ = some (.string (xs.getD j r0).val) ∧ w.cell? ⟨b, off + j * 4 + 3, none⟩ = some (.slice (xs.getD j r0).o (xs.getD j r0).n (xs.getD j r0).c) := by
  rcases h.row with e | ⟨b, off, rfl, hc⟩
  · subst e; simp at hj
  · refine ⟨b, off, rfl, hc (j * 4) _ ?_, ?_, ?_, ?_⟩
    · have := cells_at okV r0 xs j 0 hj (by decide)
      simpa [VE] using this
    all_goals rw [Nat.add_assoc]
    · refine hc (j * 4 + 1) _ ?_
      have := cells_at okV r0 xs j 1 hj (by decide)
      simpa [VE] using this
    · refine hc (j * 4 + 2) _ ?_
      have := cells_at okV r0 xs j 2 hj (by decide)
      simpa [VE] using this
    · refine hc (j * 4 + 3) _ ?_
      have := cells_at okV r0 xs j 3 hj (by decide)
      simpa [VE] using this

/-- a version as it is read out of its cells -/
structure VerOf (w : World) (r : RV) (v : Ver) : Prop where
  key : r.key = v.key
  id : r.id = v.id
  val : r.val = v.val
  n : r.n = v.keys.length
  sl : Sl TE w r.o r.c v.keys
theorem VerOf.keepsN {w w' : World} {r : RV} {v : Ver} (h : VerOf w r v) (k : Keeps no w w') : VerOf w' r v := ⟨h.key, h.id, h.val, h.n, h.sl.keepsN k⟩
/-- versions in memory -/
structure Vers (w : World) (o : Option Addr) (c : Nat) (rs : List RV) (vs : List Ver) : Prop where
  sl : Sl VE w o c rs
  len : rs.length = vs.length
  each : ∀ j, j < vs.length → VerOf w (rs.getD j r0) (vs.getD j v0)
theorem Vers.keepsN {w w' : World} {o : Option Addr} {c : Nat} {rs : List RV} {vs : List Ver} (h : Vers w o c rs vs) (k : Keeps no w w') : Vers w' o c rs vs := ⟨h.sl.keepsN k, h.len, fun j hj => (h.each j hj).keepsN k⟩

/-- sizes of all that a message holds -/
structure FitV (v : Ver) : Prop where
  key : v.key.size ≤ 140737488351232
  val : v.val.size ≤ 140737488351232
  len : v.keys.length ≤ 8796093022000
  keys : ∀ s ∈ v.keys, s.size ≤ 140737488351232
structure FitM (m : Msg) : Prop where
  klen : m.keys.length ≤ 8796093022000
  keys : ∀ s ∈ m.keys, s.size ≤ 140737488351232
  plen : m.pairs.length ≤ 4398046511000
  pairs : ∀ p ∈ m.pairs, p.1.size ≤ 140737488351232 ∧ p.2.size ≤ 140737488351232
  wlen : m.wants.length ≤ 5864062014700
  wants : ∀ p ∈ m.wants, p.1.size ≤ 140737488351232
  vlen : m.vers.length ≤ 2199023255500
  vers : ∀ v ∈ m.vers, FitV v

/-- a message as a value: its numbers, its lists -/
structure IsM (w : World) (k cl : Int) (q i : Nat) (op : Option Addr) (np cp : Nat) (ok : Option Addr) (nk ck : Nat) (ow : Option Addr) (nw cw : Nat) (ov : Option Addr) (nv cv : Nat) (rs : List RV) (m : Msg) : Prop where
  k : k = m.kind
  cl : cl = m.client
  q : q = m.req
  i : i = m.id
  np : np = m.pairs.length
  nk : nk = m.keys.length
  nw : nw = m.wants.length
  nv : nv = m.vers.length
  prs : Sl PE w op cp m.pairs
  kys : Sl TE w ok ck m.keys
  wts : Sl WE w ow cw m.wants
  vrs : Vers w ov cv rs m.vers
  rng : Rng m
  fit : FitM m
theorem IsM.keepsN {w w' : World} {k cl : Int} {q i : Nat} {op : Option Addr} {np cp : Nat} {ok : Option Addr} {nk ck : Nat} {ow : Option Addr} {nw cw : Nat} {ov : Option Addr} {nv cv : Nat} {rs : List RV} {m : Msg} (h : IsM w k cl q i op np cp ok nk ck ow nw cw ov nv cv rs m) (kp : Keeps no w w') : IsM w' k cl q i op np cp ok nk ck ow nw cw ov nv cv rs m :=
  ⟨h.k, h.cl, h.q, h.i, h.np, h.nk, h.nw, h.nv, h.prs.keepsN kp, h.kys.keepsN kp, h.wts.keepsN kp, h.vrs.keepsN kp, h.rng, h.fit⟩

/-! ### which fields a kind has -/
def fId (k : Int) : Bool := decide (k = 1 ∨ k = 2 ∨ k = 5 ∨ k = 6 ∨ k = 8)
def fKeys (k : Int) : Bool := decide (k = 1 ∨ k = 3)
def fPairs (k : Int) : Bool := decide (k = 1)
def fWants (k : Int) : Bool := decide (k = 4)
def fVers (k : Int) : Bool := decide (k = 7)
def fAny (k : Int) : Bool := decide (1 ≤ k ∧ k ≤ 8)
def holdsB (a b p w : Bool) (m : Msg) : Bool :=
  if p then isId m.id && (wset m.keys && mayP m.pairs m.keys) else if a then isId m.id else if b then valK m.keys else if w then mayW m.wants
  else decide (m.vers.length = 1) && mayV (m.vers.getD 0 v0)
def lacksB (a b p w v : Bool) (m : Msg) : Bool := (a || decide (m.id = 0)) && ((b || decide (m.keys.length = 0)) && ((p || decide (m.pairs.length = 0)) && ((w || decide (m.wants.length = 0)) && (v || decide (m.vers.length = 0)))))
theorem mayF_fields (m : Msg) : mayF m = (fAny m.kind && (holdsB (fId m.kind) (fKeys m.kind) (fPairs m.kind) (fWants m.kind) m && lacksB (fId m.kind) (fKeys m.kind) (fPairs m.kind) (fWants m.kind) (fVers m.kind) m)) := by
  obtain ⟨k, c, q, i, ks, ps, ws, vs⟩ := m
  unfold mayF holdsB lacksB none4
  simp only
  by_cases h1 : k = 1
  · subst h1; simp [fAny, fId, fKeys, fPairs, fWants, fVers, Bool.and_comm, Bool.and_left_comm, Bool.and_assoc]
  by_cases h2 : plainK k
  · rw [if_neg h1, if_pos h2]
    unfold plainK at h2
    rcases h2 with rfl | rfl | rfl | rfl <;> simp [fAny, fId, fKeys, fPairs, fWants, fVers, Bool.and_comm, Bool.and_left_comm, Bool.and_assoc]
  rw [if_neg h1, if_neg h2]
  by_cases h3 : k = 3
  · subst h3; simp [fAny, fId, fKeys, fPairs, fWants, fVers, Bool.and_comm, Bool.and_left_comm, Bool.and_assoc]
  by_cases h4 : k = 4
  · subst h4; simp [fAny, fId, fKeys, fPairs, fWants, fVers, Bool.and_comm, Bool.and_left_comm, Bool.and_assoc]
  by_cases h7 : k = 7
  · subst h7; simp [fAny, fId, fKeys, fPairs, fWants, fVers, Bool.and_comm, Bool.and_left_comm, Bool.and_assoc]
  rw [if_neg h3, if_neg h4, if_neg h7]
  unfold plainK at h2
  have : fAny k = false := by unfold fAny; rw [decide_eq_false_iff_not]; omega
  rw [this]; rfl

/-- two results, the first a struct in a cell -/
theorem results_row2 {fn : Func} {p u : Tmp} {ty : TypeId} (h : fn.results = #[.cell p ty, .tmp u]) (tmps : Array Value) (w : World) (g : Nat) (cs : Array Value)
    (hp : tmps.getD p undef = .pointer (some ⟨g, 0, none⟩)) (hl : (loadVar ty ⟨g, 0, none⟩).run Tryz.prog w = .ok (.agg cs) w) :
    (results fn tmps).run Tryz.prog w = .ok (.tuple #[.agg cs, tmps.getD u undef]) w := by
  rw [results_cell_tmp h, hp]
  simp [asAddr, hl, Result.andThen]
/-- one result, a struct in a cell -/
theorem results_row1 {fn : Func} {p : Tmp} {ty : TypeId} (h : fn.results = #[.cell p ty]) (tmps : Array Value) (w : World) (g : Nat) (cs : Array Value)
    (hp : tmps.getD p undef = .pointer (some ⟨g, 0, none⟩)) (hl : (loadVar ty ⟨g, 0, none⟩).run Tryz.prog w = .ok (.agg cs) w) :
    (results fn tmps).run Tryz.prog w = .ok (.agg cs) w := by
  have hp' : tmps[p]?.getD undef = .pointer (some ⟨g, 0, none⟩) := by simpa using hp
  simp [results, h, hp', asAddr, hl]
theorem fld_size (a b c d e : Value) : (Tryz.prog.info? 55).map (·.size) = some (#[a, b, c, d, e] : Array Value).size := by
  show _ = some 5
  kernel_rfl
theorem msg_size (a b c d e f g h : Value) : (Tryz.prog.info? 29).map (·.size) = some (#[a, b, c, d, e, f, g, h] : Array Value).size := by
  show _ = some 8
  kernel_rfl
theorem ver_size (a b c d : Value) : (Tryz.prog.info? 46).map (·.size) = some (#[a, b, c, d] : Array Value).size := by
  show _ = some 4
  kernel_rfl

theorem fieldsOf_any (w : World) (k : Int) :
    Calls Tryz.prog 21 #[.int .i64 k] w fun e w' => e = .returned (.tuple #[.agg #[.bool (fId k), .bool (fKeys k), .bool (fPairs k), .bool (fWants k), .bool (fVers k)], .bool (fAny k)]) ∧ Keeps no w w' := by
  by_cases hk : 1 ≤ k ∧ k ≤ 8
  · have hk8 : k = 1 ∨ k = 2 ∨ k = 3 ∨ k = 4 ∨ k = 5 ∨ k = 6 ∨ k = 7 ∨ k = 8 := by omega
    clear hk
    rcases hk8 with rfl | rfl | rfl | rfl | rfl | rfl | rfl | rfl
    all_goals
      go_enter Tryz.func21, Tryz.ntmps21
      go_wp2
      (try simp only [Exit.inBlock, Exit.then])
      refine bodyPost_ret (results_row2 rfl _ _ w.heap.size _ rfl (run_loadVar_row _ _ _ _ _ _ _ (blk_alloc (blk_new w _) _) Tryz.underlying55 rfl (fld_size _ _ _ _ _))) rfl ?_
      exact ⟨rfl, ((Keeps.refl _ _).alloc _).alloc _⟩
  · have h1 : ¬ k = 1 := by omega
    have h2 : ¬ k = 2 := by omega
    have h3 : ¬ k = 3 := by omega
    have h4 : ¬ k = 4 := by omega
    have h5 : ¬ k = 5 := by omega
    have h6 : ¬ k = 6 := by omega
    have h7 : ¬ k = 7 := by omega
    have h8 : ¬ k = 8 := by omega
    have e1 : fId k = false := by simp [fId, h1, h2, h5, h6, h8]
    have e2 : fKeys k = false := by simp [fKeys, h1, h3]
    have e3 : fPairs k = false := by simp [fPairs, h1]
    have e4 : fWants k = false := by simp [fWants, h4]
    have e5 : fVers k = false := by simp [fVers, h7]
    have e6 : fAny k = false := by unfold fAny; rw [decide_eq_false_iff_not]; exact hk
    rw [e1, e2, e3, e4, e5, e6]
    clear e1 e2 e3 e4 e5 e6 hk
    go_enter Tryz.func21, Tryz.ntmps21
    go_wp2
    (try simp only [Exit.inBlock, Exit.then])
    refine bodyPost_ret (results_row2 rfl _ _ w.heap.size _ rfl (run_loadVar_row _ _ _ _ _ _ _ (blk_alloc (blk_new w _) _) Tryz.underlying55 rfl (fld_size _ _ _ _ _))) rfl ?_
    exact ⟨rfl, ((Keeps.refl _ _).alloc _).alloc _⟩
end Go.Proofs.YtjklpcamlppegaaGreat
