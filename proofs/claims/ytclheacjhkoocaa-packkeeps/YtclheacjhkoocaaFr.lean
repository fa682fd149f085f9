/- What came in: a script of calls, bytes; what the walks ask of them. -/
import Derived.Test.YtclheacjhkoocaaP1
import Derived.ProofKit
import Derived.OpenShut
import Derived.JoinedCond
import Derived.SizedLaws
import Derived.Deep.Strs
namespace Go.Proofs.Ytclheacjhkoocaa
open Go.ChangeShapes Go.WideShapes Go.ChangeAt Go.RowKit Go.Deep
open Pk
set_option linter.unusedVariables false
set_option linter.unusedSimpArgs false

theorem own : ownKnob Try.prog.godebug = none := by kernel_rfl
theorem laidOut : laidOutB Try.prog = true := by kernel_rfl
theorem cells5 : Try.prog.cellsOf 5 = 1 := by kernel_rfl
theorem cells9 : Try.prog.cellsOf 9 = 1 := by kernel_rfl
theorem cells34 : Try.prog.cellsOf 34 = 6 := by kernel_rfl
theorem bytes5 : Try.prog.bytesOf 5 = 1 := by kernel_rfl

/-- the datum of a list of texts -/
def dStr {H : Type} (s : ByteArray) : DataW H := .lit (.string s.data.toList)
/-- the datum of a call -/
def dOp {H : Type} (p : OpV) (dL : DataW H) : DataW H := .agg [.lit (.int .i64 p.kind), .lit (.int .u64 (p.v : Nat)), dStr p.s, dL, .lit (.int .i64 p.N), .lit (.int .i64 p.M)]

theorem cells?_get {w : World} {base : Nat} {a : Addr} {n : Nat} {cs : List Value} (h : w.cells? base a n = some cs) : base ≤ a.block ∧ cs.length = n ∧ ∀ i, i < n → w.cell? (a.add i) = cs[i]? := by
  unfold World.cells? at h
  split at h
  · rename_i hb
    have hl := mapM_some_length h
    refine ⟨hb, by simpa using hl, fun i hi => ?_⟩
    have := mapM_some_get h i i (by simp [hi])
    simpa using this
  · cases h

theorem open_lits {H : Type} {enc : TypeId × Value → H} {W : World} {held : Bool} {fuel : Nat} {c : Value} {x : DataW H × List MemPlace}
    (hf : DataW.trod enc Try.prog W 0 (fun _ => true) held fuel 32 [c] = some x) :
    ∃ (ol : Option Addr) (cl : Nat) (ss : List ByteArray), c = .slice ol ss.length cl ∧ RowS W ol ss ∧ ss.length ≤ cl ∧ (ol = none → cl = 0) ∧ (∀ k, inO ol k → 0 < cl → k < W.heap.size) ∧
      (∀ s ∈ ss, s.size ≤ maxLen) ∧ ((x.1 = .nil ∧ ss = [] ∧ ol = none) ∨ ∃ rest, x.1 = .slice (ss.map dStr) rest ∧ ss.length + rest.length = cl) := by
  rcases open_strs Try.underlying32 Try.underlying9 cells9 hf with ⟨hcs, hx⟩ | ⟨a, len, cap, m, Sx, hcs, _, hl, hm, hmm, hx, hcell⟩
  · simp at hcs
    subst hcs
    exact ⟨none, 0, [], rfl, .inl rfl, by simp, fun _ => rfl, fun k ⟨y, h, _⟩ => (by cases h), fun s hs => (by cases hs), .inl ⟨by rw [hx], rfl, rfl⟩⟩
  · simp at hcs
    subst hcs
    have hmm' : m = cap := by simpa using hmm
    subst hmm'
    refine ⟨some a, m, (List.range len).map Sx, by simp, ?_, by simpa using hl, fun h => (by cases h), ?_, ?_, .inr ⟨(List.range (m - len)).map fun j => dStr (Sx (len + j)), by rw [hx]; simp [dStr], by simp; omega⟩⟩
    · by_cases h0 : len = 0
      · left; subst h0; simp
      · right
        obtain ⟨b, off, spot⟩ := a
        have hc := (hcell 0 (by omega)).1
        have hspot : spot = none := by simpa [Addr.add] using World.cell?_spot hc
        subst hspot
        refine ⟨b, off, rfl, fun j hj => ?_⟩
        simp at hj
        have h1 := (hcell j (by omega)).1
        rw [addr_add] at h1
        rw [h1]
        simp [hj]
    · rintro k ⟨y, h, rfl⟩ hpos
      cases h
      have hc := (hcell 0 (by omega)).1
      have := World.block_lt_of_cell? W _ hc
      simpa [Addr.add] using this
    · intro s hs
      simp at hs
      obtain ⟨i, hi, rfl⟩ := hs
      exact (hcell i (by omega)).2

/-- a call that came in: all but the sizes -/
structure OpV.okB (p : OpV) (w : World) : Prop where
  k1 : -9223372036854775808 ≤ p.kind
  k2 : p.kind ≤ 9223372036854775807
  v1 : p.v < 18446744073709551616
  row : RowS w p.ol p.ss
  live : ∀ k, inO p.ol k → 0 < p.cl → k < w.heap.size
  nil : p.ol = none → p.cl = 0
  cap : p.ss.length ≤ p.cl
  n1 : -9223372036854775808 ≤ p.N
  n2 : p.N ≤ 9223372036854775807
  m1 : -9223372036854775808 ≤ p.M
  m2 : p.M ≤ 9223372036854775807

theorem open_op {H : Type} {enc : TypeId × Value → H} {W : World} {held : Bool} {fuel : Nat} {cs : List Value} {x : DataW H × List MemPlace}
    (hf : DataW.trod enc Try.prog W 0 (fun _ => true) held fuel 34 cs = some x) :
    ∃ (p : OpV) (dL : DataW H), cs = p.cells.toList ∧ x.1 = dOp p dL ∧ p.okB W ∧ ((dL = .nil ∧ p.ss = []) ∨ ∃ rest, dL = .slice (p.ss.map dStr) rest ∧ p.ss.length + rest.length = p.cl) := by
  obtain ⟨xs, n, _, rfl, hlen, hxl, hfs⟩ := DataW.trod_struct Try.underlying34 hf
  rw [cells34] at hlen
  match cs, hlen with
  | [c0, c1, c2, c3, c4, c5], _ =>
    have t0 := hfs 0 _ rfl
    have t1 := hfs 1 _ rfl
    have t2 := hfs 2 _ rfl
    have t3 := hfs 3 _ rfl
    have t4 := hfs 4 _ rfl
    have t5 := hfs 5 _ rfl
    have hxl6 : xs.length = 6 := hxl
    match xs, hxl6 with
    | [x0, x1, x2, x3, x4, x5], _ =>
      obtain ⟨kind, e0, rfl, w0⟩ := DataW.trod_int (k := .i64) Try.underlying3 t0
      obtain ⟨v, e1, rfl, w1⟩ := DataW.trod_int (k := .u64) Try.underlying31 t1
      obtain ⟨s, e2, rfl, w2⟩ := DataW.trod_string Try.underlying9 t2
      obtain ⟨ol, cl, ss, e3, hrow, hcap, hnil, hlive, hsz, hd⟩ := open_lits (c := c3) t3
      obtain ⟨N, e4, rfl, w4⟩ := DataW.trod_int (k := .i64) Try.underlying3 t4
      obtain ⟨M, e5, rfl, w5⟩ := DataW.trod_int (k := .i64) Try.underlying3 t5
      have b0 := bounds_i64 w0
      have b1 := bounds_u64 w1
      have b4 := bounds_i64 w4
      have b5 := bounds_i64 w5
      have q0 : [c0] = [Value.int .i64 kind] := e0
      have q1 : [c1] = [Value.int .u64 v] := e1
      have q2 : [c2] = [Value.string s] := e2
      have q4 : [c4] = [Value.int .i64 N] := e4
      have q5 : [c5] = [Value.int .i64 M] := e5
      injection q0 with q0 _
      injection q1 with q1 _
      injection q2 with q2 _
      injection q4 with q4 _
      injection q5 with q5 _
      subst q0 q1 q2 q4 q5 e3
      have hv : ((v.toNat : Nat) : Int) = v := by omega
      refine ⟨⟨kind, v.toNat, s, ol, cl, ss, N, M⟩, x3.1, ?_, ?_, ⟨b0.1, b0.2, by show v.toNat < _; omega, hrow, hlive, hnil, hcap, b4.1, b4.2, b5.1, b5.2⟩, ?_⟩
      · simp [OpV.cells, hv]
      · simp [dOp, dStr, hv]
      · rcases hd with ⟨h1, h2, _⟩ | h
        · exact .inl ⟨h1, h2⟩
        · exact .inr h

/-- a script that came in: all but the sizes -/
structure ScriptB {H : Type} (w : World) (o : Option Addr) (cap : Nat) (ps : List OpV) (d : DataW H) : Prop where
  row : ps = [] ∨ ∃ b off, o = some ⟨b, off, none⟩ ∧ ∀ j, j < ps.length → ∀ k, k < 6 → w.cell? ⟨b, off + j * 6 + k, none⟩ = (ps.getD j op0).cells[k]?
  ok : ∀ p ∈ ps, p.okB w
  hcap : ps.length ≤ cap
  nil : o = none → cap = 0
  dat : (d = .nil ∧ ps = []) ∨ ∃ (ds rest : List (DataW H)), d = .slice ds rest ∧ ds.length = ps.length ∧ ds.length + rest.length = cap ∧
    ∀ j, j < ps.length → ∃ dL, ds[j]? = some (dOp (ps.getD j op0) dL) ∧ ((dL = .nil ∧ (ps.getD j op0).ss = []) ∨ ∃ rest, dL = .slice ((ps.getD j op0).ss.map dStr) rest ∧ (ps.getD j op0).ss.length + rest.length = (ps.getD j op0).cl)

theorem open_script {H : Type} {enc : TypeId × Value → H} {W : World} {held : Bool} {fuel : Nat} {a : Option Addr} {len cap : Nat} {x : DataW H × List MemPlace}
    (hf : DataW.trod enc Try.prog W 0 (fun _ => true) held fuel 22 [.slice a len cap] = some x) :
    ∃ ps : List OpV, ps.length = len ∧ ScriptB W a cap ps x.1 := by
  rcases open_slice Try.underlying22 hf with ⟨hcs, hx⟩ | ⟨y, l, c, m, n, D, Pl, hcs, _, hl, hm, hmm, hx, hel⟩
  · simp at hcs
    obtain ⟨rfl, rfl, rfl⟩ := hcs
    exact ⟨[], rfl, .inl rfl, fun p hp => (by cases hp), by simp, fun _ => rfl, .inl ⟨by rw [hx], rfl⟩⟩
  · simp at hcs
    obtain ⟨rfl, rfl, rfl⟩ := hcs
    have hmm' : m = cap := by simpa using hmm
    subst hmm'
    have each : ∀ i, i < len → ∃ p : OpV, (∃ cs', W.cells? 0 (y.add (i * 6)) 6 = some cs' ∧ cs' = p.cells.toList) ∧ p.okB W ∧ ∃ dL, D i = dOp p dL ∧ ((dL = .nil ∧ p.ss = []) ∨ ∃ rest, dL = .slice (p.ss.map dStr) rest ∧ p.ss.length + rest.length = p.cl) := by
      intro i hi
      obtain ⟨cs', hc, ht⟩ := hel i (by omega)
      rw [cells34] at hc
      obtain ⟨p, dL, h1, h2, h3, h4⟩ := open_op ht
      exact ⟨p, ⟨cs', hc, h1⟩, h3, dL, h2, h4⟩
    have inh : Inhabited OpV := ⟨op0⟩
    obtain ⟨F, hF⟩ := choose_lt each
    have hget : ∀ j, j < len → ((List.range len).map F).getD j op0 = F j := fun j hj => by simp [List.getD_eq_getElem?_getD, hj]
    refine ⟨(List.range len).map F, by simp, ?_, ?_, by simpa using hl, fun h => (by cases h), .inr ⟨(List.range len).map D, (List.range (m - len)).map fun j => D (len + j), by rw [hx], by simp, by simp; omega, ?_⟩⟩
    · by_cases h0 : len = 0
      · left; subst h0; simp
      · right
        obtain ⟨b, off, spot⟩ := y
        obtain ⟨⟨cs', hc, hcs⟩, _⟩ := hF 0 (by omega)
        obtain ⟨_, hl6, hce⟩ := cells?_get hc
        have hc0 := hce 0 (by omega)
        have hspot : spot = none := by
          have h6 : cs'[0]? = some (cs'[0]'(by omega)) := List.getElem?_eq_getElem (by omega)
          rw [h6] at hc0
          simpa [Addr.add] using World.cell?_spot hc0
        subst hspot
        refine ⟨b, off, rfl, fun j hj k hk => ?_⟩
        simp at hj
        obtain ⟨⟨cs', hc, hcs⟩, _⟩ := hF j hj
        obtain ⟨_, hl6, hce⟩ := cells?_get hc
        have := hce k hk
        rw [addr_add, addr_add] at this
        rw [hget j hj, this, hcs]
        simp
    · intro p hp
      simp at hp
      obtain ⟨i, hi, rfl⟩ := hp
      exact (hF i hi).2.1
    · intro j hj
      simp at hj
      obtain ⟨dL, h1, h2⟩ := (hF j hj).2.2
      rw [hget j hj]
      exact ⟨dL, by simp [hj, h1], h2⟩

/-- how much a call holds -/
def opBulk (p : OpV) : Nat := p.s.size + bodyLen (natss p.ss)
theorem bulk_str {H : Type} (s : ByteArray) : Rows.uptoBulk (dStr (H := H) s) = s.size + 1 := by
  simp only [dStr, Rows.uptoBulk]
  rw [Array.length_toList]
  rfl
theorem bulk_strs {H : Type} (ss : List ByteArray) : bodyLen (natss ss) ≤ 4 * Rows.uptoBulkAll (ss.map (dStr (H := H))) := by
  induction ss with
  | nil => simp [natss, bodyLen]
  | cons s ss ih =>
    simp only [natss, List.map_cons, bodyLen, Rows.uptoBulkAll, bulk_str, nats_length] at ih ⊢
    omega
theorem bulk_mem {H : Type} {d : DataW H} {l : List (DataW H)} (h : d ∈ l) : Rows.uptoBulk d ≤ Rows.uptoBulkAll l := by
  induction l with
  | nil => cases h
  | cons x l ih =>
    simp only [Rows.uptoBulkAll]
    rcases List.mem_cons.mp h with rfl | h
    · omega
    · have := ih h; omega
theorem bulk_op {H : Type} (p : OpV) (dL : DataW H) (h : (dL = .nil ∧ p.ss = []) ∨ ∃ rest, dL = .slice (p.ss.map dStr) rest ∧ p.ss.length + rest.length = p.cl) : p.s.size + bodyLen (natss p.ss) + 6 ≤ 4 * Rows.uptoBulk (dOp p dL) := by
  simp only [dOp, Rows.uptoBulk, Rows.uptoBulkAll, bulk_str]
  rcases h with ⟨rfl, h⟩ | ⟨rest, rfl, _⟩
  · rw [h]; simp [natss, bodyLen]; omega
  · have := bulk_strs (H := H) p.ss
    simp only [Rows.uptoBulk]
    omega
def sumBulk : List OpV → Nat
  | [] => 0
  | p :: ps => opBulk p + 6 + sumBulk ps
theorem sumBulk_le {H : Type} (ps : List OpV) (ds : List (DataW H)) (hl : ds.length = ps.length)
    (h : ∀ j, j < ps.length → ∃ dL, ds[j]? = some (dOp (ps.getD j op0) dL) ∧ ((dL = .nil ∧ (ps.getD j op0).ss = []) ∨ ∃ rest, dL = .slice ((ps.getD j op0).ss.map dStr) rest ∧ (ps.getD j op0).ss.length + rest.length = (ps.getD j op0).cl)) :
    sumBulk ps ≤ 4 * Rows.uptoBulkAll ds := by
  induction ps generalizing ds with
  | nil => simp [sumBulk]
  | cons p ps ih =>
    match ds, hl with
    | d :: ds, hl =>
      obtain ⟨dL, h1, h2⟩ := h 0 (by simp)
      simp at h1 h2
      subst h1
      have hr := ih ds (by simpa using hl) (fun j hj => by
        have := h (j + 1) (by simp; omega)
        simpa using this)
      have := bulk_op p dL h2
      simp only [sumBulk, Rows.uptoBulkAll, opBulk]
      omega
theorem sumBulk_mem {p : OpV} {ps : List OpV} (h : p ∈ ps) : opBulk p + 6 ≤ sumBulk ps := by
  induction ps with
  | nil => cases h
  | cons x l ih =>
    simp only [sumBulk]
    rcases List.mem_cons.mp h with rfl | h
    · omega
    · have := ih h; omega
theorem sumBulk_len (ps : List OpV) : ps.length ≤ sumBulk ps := by
  induction ps with
  | nil => simp
  | cons x l ih => simp only [sumBulk, List.length_cons]; omega
theorem news_le (p : OpV) : p.news.length ≤ opBulk p + 8 := by
  unfold OpV.news
  split
  · rw [num_length]; omega
  · split
    · rw [num_length]; omega
    · split
      · rw [num_length]; omega
      · split
        · rw [txt_length, nats_length]; unfold opBulk; omega
        · split
          · rw [txts_length]; unfold opBulk; omega
          · simp
theorem newsLen_le (ps : List OpV) : newsLen ps ≤ 2 * sumBulk ps := by
  induction ps with
  | nil => simp [newsLen]
  | cons x l ih =>
    have := news_le x
    simp only [newsLen, sumBulk]
    omega
theorem ss_len (ss : List ByteArray) : 4 * ss.length ≤ bodyLen (natss ss) := by
  induction ss with
  | nil => simp
  | cons s ss ih =>
    simp only [natss, List.map_cons, bodyLen, List.length_cons] at ih ⊢
    omega
theorem ss_size {s : ByteArray} {ss : List ByteArray} (h : s ∈ ss) : s.size ≤ bodyLen (natss ss) := by
  induction ss with
  | nil => cases h
  | cons x l ih =>
    simp only [natss, List.map_cons, bodyLen, nats_length] at ih ⊢
    rcases List.mem_cons.mp h with rfl | h
    · omega
    · have := ih h; omega

theorem ScriptB.bulk {H : Type} {w : World} {o : Option Addr} {cap : Nat} {ps : List OpV} {d : DataW H} (h : ScriptB w o cap ps d) : sumBulk ps ≤ 4 * Rows.uptoBulk d := by
  rcases h.dat with ⟨rfl, rfl⟩ | ⟨ds, rest, rfl, hl, _, hd⟩
  · simp [sumBulk]
  · have := sumBulk_le ps ds hl hd
    simp only [Rows.uptoBulk]
    omega

/-- the sizes paid by the bound -/
theorem ScriptB.script {H : Type} {w : World} {o : Option Addr} {cap : Nat} {ps : List OpV} {d : DataW H} (h : ScriptB w o cap ps d) (hb : Rows.uptoBulk d ≤ 1048576) :
    Script w o ps ∧ newsLen ps ≤ 8388608 ∧ (∀ p ∈ ps, 4 + bodyLen (natss p.ss) ≤ 140737488355328) := by
  have h1 := h.bulk
  have h2 := newsLen_le ps
  have h3 := sumBulk_len ps
  have h4 : ∀ p ∈ ps, p.s.size + bodyLen (natss p.ss) ≤ 4194304 := fun p hp => by
    have := sumBulk_mem hp
    unfold opBulk at this
    omega
  refine ⟨⟨h.row, fun p hp => ?_, by omega⟩, by omega, fun p hp => by have := h4 p hp; omega⟩
  have hk := h.ok p hp
  have hh := h4 p hp
  have hl := ss_len p.ss
  have hc := hk.cap
  refine ⟨hk.k1, hk.k2, hk.v1, by omega, hk.row, fun k hi h0 => hk.live k hi ?_, hk.nil, hk.cap, by omega, fun s hs => by have := ss_size hs; omega, hk.n1, hk.n2, hk.m1, hk.m2⟩
  have : p.ss.length ≠ 0 := fun e => h0 (List.length_eq_zero_iff.mp e)
  omega
end Go.Proofs.Ytclheacjhkoocaa
