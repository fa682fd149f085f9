/- What came in: scripts of calls. -/
import Derived.Test.YtgobakfffobpkaaFr
import Derived.Test.YtgobakfffobpkaaT7
namespace Go.Proofs.Ytgobakfffobpkaa
open Go.ChangeShapes Go.WideShapes Go.ChangeAt Go.RowKit Go.Deep
set_option linter.unusedVariables false
set_option linter.unusedSimpArgs false

theorem cells45 : Try.prog.cellsOf 45 = 7 := by kernel_rfl
def dStr {H : Type} (s : ByteArray) : DataW H := .lit (.string s.data.toList)
def dOp {H : Type} (p : OpV) (dL : DataW H) : DataW H := .agg [.lit (.int .i64 p.kind), .lit (.int .i64 p.who), dStr p.nm, dStr p.tn, dL, .lit (.int .i64 p.N), .lit (.int .i64 p.K)]
def dBy {H : Type} (d : DataW H) (bs : List UInt8) : Prop := (d = .nil ∧ bs = []) ∨ ∃ elems spare, d = .slice elems spare ∧ elems.length = bs.length
theorem cells?_get {w : World} {base : Nat} {a : Addr} {n : Nat} {cs : List Value} (h : w.cells? base a n = some cs) : base ≤ a.block ∧ cs.length = n ∧ ∀ i, i < n → w.cell? (a.add i) = cs[i]? := by
  unfold World.cells? at h
  split at h
  · rename_i hb
    have hl := mapM_some_length h
    refine ⟨hb, by simpa using hl, fun i hi => ?_⟩
    have := mapM_some_get h i i (by simp [hi])
    simpa using this
  · cases h
theorem open_bytes1 {H : Type} {enc : TypeId × Value → H} {W : World} {held : Bool} {fuel : Nat} {c : Value} {x : DataW H × List MemPlace}
    (hf : DataW.trod enc Try.prog W 0 (fun _ => true) held fuel 22 [c] = some x) : ∃ a len cap, c = .slice a len cap := by
  rcases open_ints Try.underlying22 Try.underlying5 cells5 hf with ⟨hcs, hx⟩ | ⟨y, l, c, zs, hcs, _, hl, hm, hz, hx, hcell, hwz⟩
  · simp at hcs; exact ⟨_, _, _, hcs⟩
  · simp at hcs; exact ⟨_, _, _, hcs⟩

/-- a call that came in: all but the sizes -/
structure OpV.okB (o : OpV) (w : World) : Prop where
  k : i64 o.kind
  wh : i64 o.who
  n : i64 o.N
  kk : i64 o.K
  sl : Sl BE w o.ob o.cb o.bs
  live : ∀ k, inO o.ob k → 0 < o.cb → k < w.heap.size
set_option maxRecDepth 100000 in
theorem open_op {H : Type} {enc : TypeId × Value → H} {W : World} {held : Bool} {fuel : Nat} {cs : List Value} {x : DataW H × List MemPlace}
    (hf : DataW.trod enc Try.prog W 0 (fun _ => true) held fuel 45 cs = some x) :
    ∃ (p : OpV) (dL : DataW H), cs = p.cells.toList ∧ x.1 = dOp p dL ∧ p.okB W ∧ dBy dL p.bs := by
  obtain ⟨xs, n, _, rfl, hlen, hxl, hfs⟩ := DataW.trod_struct Try.underlying45 hf
  rw [cells45] at hlen
  match cs, hlen with
  | [c0, c1, c2, c3, c4, c5, c6], _ =>
    have t0 := hfs 0 _ rfl
    have t1 := hfs 1 _ rfl
    have t2 := hfs 2 _ rfl
    have t3 := hfs 3 _ rfl
    have t4 := hfs 4 _ rfl
    have t5 := hfs 5 _ rfl
    have t6 := hfs 6 _ rfl
    have hxl7 : xs.length = 7 := hxl
    match xs, hxl7 with
    | [x0, x1, x2, x3, x4, x5, x6], _ =>
      obtain ⟨kind, e0, rfl, w0⟩ := DataW.trod_int (k := .i64) Try.underlying3 t0
      obtain ⟨who, e1, rfl, w1⟩ := DataW.trod_int (k := .i64) Try.underlying3 t1
      obtain ⟨nm, e2, rfl, w2⟩ := DataW.trod_string Try.underlying9 t2
      obtain ⟨tn, e3, rfl, w3⟩ := DataW.trod_string Try.underlying9 t3
      obtain ⟨ob, nb, cb, e4⟩ := open_bytes1 (c := c4) t4
      subst e4
      obtain ⟨bs, rfl, hs, hv, hd⟩ := open_bytes t4
      obtain ⟨N, e5, rfl, w5⟩ := DataW.trod_int (k := .i64) Try.underlying3 t5
      obtain ⟨K, e6, rfl, w6⟩ := DataW.trod_int (k := .i64) Try.underlying3 t6
      have q0 : [c0] = [Value.int .i64 kind] := e0
      have q1 : [c1] = [Value.int .i64 who] := e1
      have q2 : [c2] = [Value.string nm] := e2
      have q3 : [c3] = [Value.string tn] := e3
      have q5 : [c5] = [Value.int .i64 N] := e5
      have q6 : [c6] = [Value.int .i64 K] := e6
      injection q0 with q0 _
      injection q1 with q1 _
      injection q2 with q2 _
      injection q3 with q3 _
      injection q5 with q5 _
      injection q6 with q6 _
      subst q0 q1 q2 q3 q5 q6
      refine ⟨⟨kind, who, nm, tn, ob, cb, bs, N, K⟩, x4.1, ?_, ?_, ⟨bounds_i64 w0, bounds_i64 w1, bounds_i64 w5, bounds_i64 w6, hs, hv⟩, ?_⟩
      · simp [OpV.cells]
      · simp [dOp, dStr]
      · rcases hd with ⟨h1, h2, _⟩ | ⟨elems, spare, h1, h2, _⟩
        · exact .inl ⟨h1, h2⟩
        · exact .inr ⟨elems, spare, h1, h2⟩

/-- a script that came in: all but the sizes -/
structure ScriptB {H : Type} (w : World) (o : Option Addr) (cap : Nat) (ps : List OpV) (d : DataW H) : Prop where
  row : ps = [] ∨ ∃ b off, o = some ⟨b, off, none⟩ ∧ ∀ j, j < ps.length → ∀ k, k < 7 → w.cell? ⟨b, off + j * 7 + k, none⟩ = (ps.getD j op0).cells[k]?
  ok : ∀ p ∈ ps, p.okB w
  dat : (d = .nil ∧ ps = []) ∨ ∃ (ds rest : List (DataW H)), d = .slice ds rest ∧ ds.length = ps.length ∧ ∀ j, j < ps.length → ∃ dL, ds[j]? = some (dOp (ps.getD j op0) dL) ∧ dBy dL (ps.getD j op0).bs
theorem open_script {H : Type} {enc : TypeId × Value → H} {W : World} {held : Bool} {fuel : Nat} {a : Option Addr} {len cap : Nat} {x : DataW H × List MemPlace}
    (hf : DataW.trod enc Try.prog W 0 (fun _ => true) held fuel 42 [.slice a len cap] = some x) :
    ∃ ps : List OpV, ps.length = len ∧ ScriptB W a cap ps x.1 := by
  rcases open_slice Try.underlying42 hf with ⟨hcs, hx⟩ | ⟨y, l, c, m, n, D, Pl, hcs, _, hl, hm, hmm, hx, hel⟩
  · simp at hcs
    obtain ⟨rfl, rfl, rfl⟩ := hcs
    exact ⟨[], rfl, .inl rfl, fun p hp => (by cases hp), .inl ⟨by rw [hx], rfl⟩⟩
  · simp at hcs
    obtain ⟨rfl, rfl, rfl⟩ := hcs
    have hmm' : m = cap := by simpa using hmm
    subst hmm'
    have each : ∀ i, i < len → ∃ p : OpV, (∃ cs', W.cells? 0 (y.add (i * 7)) 7 = some cs' ∧ cs' = p.cells.toList) ∧ p.okB W ∧ ∃ dL, D i = dOp p dL ∧ dBy dL p.bs := by
      intro i hi
      obtain ⟨cs', hc, ht⟩ := hel i (by omega)
      rw [cells45] at hc
      obtain ⟨p, dL, h1, h2, h3, h4⟩ := open_op ht
      exact ⟨p, ⟨cs', hc, h1⟩, h3, dL, h2, h4⟩
    have inh : Inhabited OpV := ⟨op0⟩
    obtain ⟨F, hF⟩ := choose_lt each
    have hget : ∀ j, j < len → ((List.range len).map F).getD j op0 = F j := fun j hj => by simp [List.getD_eq_getElem?_getD, hj]
    refine ⟨(List.range len).map F, by simp, ?_, ?_, .inr ⟨(List.range len).map D, (List.range (m - len)).map fun j => D (len + j), by rw [hx], by simp, ?_⟩⟩
    · by_cases h0 : len = 0
      · left; subst h0; simp
      · right
        obtain ⟨b, off, spot⟩ := y
        obtain ⟨⟨cs', hc, hcs⟩, _⟩ := hF 0 (by omega)
        obtain ⟨_, hl7, hce⟩ := cells?_get hc
        have hc0 := hce 0 (by omega)
        have hspot : spot = none := by
          have h7 : cs'[0]? = some (cs'[0]'(by omega)) := List.getElem?_eq_getElem (by omega)
          rw [h7] at hc0
          simpa [Addr.add] using World.cell?_spot hc0
        subst hspot
        refine ⟨b, off, rfl, fun j hj k hk => ?_⟩
        simp at hj
        obtain ⟨⟨cs', hc, hcs⟩, _⟩ := hF j hj
        obtain ⟨_, hl7, hce⟩ := cells?_get hc
        have := hce k hk
        rw [addr_add, addr_add] at this
        rw [hget j hj, this, hcs]
        simp
    · intro p hp
      simp at hp
      obtain ⟨i, hi, rfl⟩ := hp
      exact (hF i hi).2.1
    · intro j hj
      simp at hj
      obtain ⟨dL, h1, h2⟩ := (hF j hj).2.2
      rw [hget j hj]
      exact ⟨dL, by simp [hj, h1], h2⟩

/-! ### sizes out of the bound -/
theorem bulk_pos {H : Type} (d : DataW H) : 1 ≤ Rows.uptoBulk d := by
  cases d with
  | lit l => cases l <;> simp [Rows.uptoBulk]
  | _ => simp [Rows.uptoBulk]
theorem bulk_len {H : Type} (l : List (DataW H)) : l.length ≤ Rows.uptoBulkAll l := by
  induction l with
  | nil => simp
  | cons d r ih => simp only [Rows.uptoBulkAll, List.length_cons]; have := bulk_pos d; omega
theorem bulk_mem {H : Type} {d : DataW H} {l : List (DataW H)} (h : d ∈ l) : Rows.uptoBulk d ≤ Rows.uptoBulkAll l := by
  induction l with
  | nil => cases h
  | cons x l ih =>
    simp only [Rows.uptoBulkAll]
    rcases List.mem_cons.mp h with rfl | h
    · omega
    · have := ih h; omega
theorem bulk_str {H : Type} (s : ByteArray) : Rows.uptoBulk (dStr (H := H) s) = s.size + 1 := by
  simp only [dStr, Rows.uptoBulk]
  rw [Array.length_toList]
  rfl
theorem bulk_op {H : Type} (p : OpV) (dL : DataW H) (h : dBy dL p.bs) : p.nm.size ≤ Rows.uptoBulk (dOp p dL) ∧ p.tn.size ≤ Rows.uptoBulk (dOp p dL) ∧ p.bs.length ≤ Rows.uptoBulk (dOp p dL) := by
  simp only [dOp, Rows.uptoBulk, Rows.uptoBulkAll, bulk_str]
  refine ⟨by omega, by omega, ?_⟩
  rcases h with ⟨rfl, h⟩ | ⟨elems, spare, rfl, h⟩
  · rw [h]; simp
  · have := bulk_len elems
    simp only [Rows.uptoBulk]
    omega
theorem ScriptB.script {H : Type} {w : World} {o : Option Addr} {cap : Nat} {ps : List OpV} {d : DataW H} (h : ScriptB w o cap ps d) (hb : Rows.uptoBulk d ≤ 1048576) : Script w o ps := by
  have key : ps.length ≤ 1048576 ∧ ∀ p ∈ ps, p.nm.size ≤ 1048576 ∧ p.tn.size ≤ 1048576 ∧ p.bs.length ≤ 1048576 := by
    rcases h.dat with ⟨_, e⟩ | ⟨ds, rest, rfl, hl, hd⟩
    · rw [e]; simp
    · simp only [Rows.uptoBulk] at hb
      have hlen := bulk_len ds
      refine ⟨by omega, fun p hp => ?_⟩
      obtain ⟨j, hj, rfl⟩ := List.getElem_of_mem hp
      obtain ⟨dL, h1, h2⟩ := hd j hj
      have e : ps.getD j op0 = ps[j] := by simp [List.getD_eq_getElem?_getD, hj]
      rw [e] at h1 h2
      have h3 := bulk_op ps[j] dL h2
      have h4 := bulk_mem (List.mem_of_getElem? h1)
      omega
  refine ⟨h.row, fun p hp => ?_, key.1⟩
  have h1 := h.ok p hp
  have h2 := key.2 p hp
  exact ⟨h1.k, h1.wh, h1.n, h1.kk, by unfold maxLen; omega, by unfold maxLen; omega, h1.sl, h1.live, by omega⟩
end Go.Proofs.Ytgobakfffobpkaa
