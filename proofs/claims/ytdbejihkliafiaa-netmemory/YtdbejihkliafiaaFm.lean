/- What came in: bytes, a list of calls. -/
import Derived.Test.YtdbejihkliafiaaK1
import Derived.Deep.Slices
import Derived.ProofKit
import Derived.OpenShut
import Derived.JoinedCond
import Derived.SizedLaws
import Derived.Deep.Strs
import Derived.Deep.DeepHandedRow
import Derived.Lib.LaidTab
namespace Go.Proofs.Ytdbejihkliafiaa
open Go.ChangeShapes Go.WideShapes Go.ChangeAt Go.RowKit Go.Deep
set_option linter.unusedVariables false
set_option linter.unusedSimpArgs false

theorem own : ownKnob Try.prog.godebug = none := by kernel_rfl
theorem laidOut : laidOutB Try.prog = true := by kernel_rfl
theorem weightsAll_mem {H : Type} {P : Program} {e : TypeId} : ∀ {l : List (DataW H)} {d : DataW H}, d ∈ l → ∀ n ∈ d.weights P e, n ∈ DataW.weightsAll P e l := by
  intro l
  induction l with
  | nil => intro d h; cases h
  | cons x l ih =>
    intro d h n hn
    simp only [DataW.weightsAll, List.mem_append]
    rcases List.mem_cons.mp h with rfl | h
    · exact .inl hn
    · exact .inr (ih h n hn)
theorem mcells?_get {w : World} {base : Nat} {a : Addr} {n : Nat} {cs : List Value} (h : w.cells? base a n = some cs) : base ≤ a.block ∧ cs.length = n ∧ ∀ i, i < n → w.cell? (a.add i) = cs[i]? := by
  unfold World.cells? at h
  split at h
  · rename_i hb
    have hl := mapM_some_length h
    refine ⟨hb, by simpa using hl, fun i hi => ?_⟩
    have := mapM_some_get h i i (by simp [hi])
    simpa using this
  · cases h

theorem row_of_el {α : Type} {E : El α} (hE : E.Ok) (z : α) {W : World} {b off : Nat} {ss : List α} (h : ∀ j, j < ss.length → ∀ k, k < E.k → W.cell? ⟨b, off + j * E.k + k, none⟩ = (E.enc (ss.getD j z))[k]?) : Row E W (some ⟨b, off, none⟩) ss := by
  refine .inr ⟨b, off, rfl, fun j u hj => ?_⟩
  have hjl : j < ss.length * E.k := by
    have := (List.getElem?_eq_some_iff.mp hj).1
    rw [cells_length hE] at this
    exact this
  have hp := hE.pos
  have hd : j / E.k < ss.length := (Nat.div_lt_iff_lt_mul hp).2 hjl
  have hm : j % E.k < E.k := Nat.mod_lt _ hp
  have hc := cells_at hE z ss (j / E.k) (j % E.k) hd hm
  have hjj : j / E.k * E.k + j % E.k = j := Nat.div_add_mod' j E.k
  rw [hjj, hj] at hc
  have hh := h (j / E.k) hd (j % E.k) hm
  rw [Nat.add_assoc, hjj] at hh
  rw [hh, ← hc]

/-- a list of any kind, each element opened by its own -/
theorem open_list {α : Type} (E : El α) (hE : E.Ok) (z : α) (OKp : α → Prop) (hcl : Try.prog.cellsOf E.e = E.k) (hby : Try.prog.bytesOf E.e = E.nb)
    {H : Type} {enc : TypeId × Value → H} {W : World} {held : Bool}
    (one : ∀ (fuel : Nat) (cs : List Value) (x : DataW H × List MemPlace), DataW.trod enc Try.prog W 0 (fun _ => true) held fuel E.e cs = some x → (∀ n ∈ x.1.weights Try.prog E.e, n ≤ reachBytes) → ∃ p, cs = E.enc p ∧ OKp p)
    {fuel : Nat} {a : Option Addr} {len cap : Nat} {x : DataW H × List MemPlace}
    (hf : DataW.trod enc Try.prog W 0 (fun _ => true) held fuel E.t [.slice a len cap] = some x) (hw : ∀ n ∈ x.1.weights Try.prog E.t, n ≤ reachBytes) :
    ∃ ps : List α, ps.length = len ∧ Sl E W a cap ps ∧ (∀ p ∈ ps, OKp p) ∧ cap * E.nb ≤ reachBytes := by
  rcases open_slice hE.und hf with ⟨hcs, hx⟩ | ⟨y, l, c, m, n, D, Pl, hcs, _, hl, hm, hmm, hx, hel⟩
  · simp at hcs
    obtain ⟨rfl, rfl, rfl⟩ := hcs
    exact ⟨[], rfl, ⟨.inl rfl, by simp, fun _ => rfl⟩, fun p hp => (by cases hp), by simp [reachBytes]⟩
  · simp at hcs
    obtain ⟨rfl, rfl, rfl⟩ := hcs
    have hmm' : m = cap := by simpa using hmm
    subst hmm'
    have hw' : ∀ n ∈ (DataW.slice ((List.range len).map D) ((List.range (m - len)).map fun j => D (len + j))).weights Try.prog E.t, n ≤ reachBytes := by rw [hx] at hw; exact hw
    simp only [DataW.weights, hE.und] at hw'
    have hcapw := hw' _ (List.mem_cons_self)
    rw [hby] at hcapw
    simp only [List.length_map, List.length_range] at hcapw
    rw [show len + (m - len) = m by omega] at hcapw
    have each : ∀ i, i < len → ∃ p : α, (W.cells? 0 (y.add (i * E.k)) E.k = some (E.enc p)) ∧ OKp p := by
      intro i hi
      obtain ⟨cs', hc, ht⟩ := hel i (by omega)
      rw [hcl] at hc
      obtain ⟨p, rfl, h2⟩ := one n cs' _ ht (fun k hk => hw' k (List.mem_cons_of_mem _ (List.mem_append_left _ (weightsAll_mem (List.mem_map.2 ⟨i, by simp [hi], rfl⟩) k hk))))
      exact ⟨p, hc, h2⟩
    have inh : Inhabited α := ⟨z⟩
    obtain ⟨F, hF⟩ := choose_lt each
    have hget : ∀ j, j < len → ((List.range len).map F).getD j z = F j := fun j hj => by simp [List.getD_eq_getElem?_getD, hj]
    refine ⟨(List.range len).map F, by simp, ⟨?_, by simpa using hl, fun h => (by cases h)⟩, ?_, hcapw⟩
    · by_cases h0 : len = 0
      · left; subst h0; simp
      · obtain ⟨b, off, spot⟩ := y
        obtain ⟨_, hl2, hce⟩ := mcells?_get (hF 0 (by omega)).1
        have hc0 := hce 0 hE.pos
        have hspot : spot = none := by
          have h7 : (E.enc (F 0))[0]? = some ((E.enc (F 0))[0]'(by rw [hE.len]; exact hE.pos)) := List.getElem?_eq_getElem _
          rw [h7] at hc0
          simpa [Addr.add] using World.cell?_spot hc0
        subst hspot
        refine row_of_el hE z fun j hj k hk => ?_
        simp at hj
        obtain ⟨_, _, hce⟩ := mcells?_get (hF j hj).1
        have g0 := hce k hk
        rw [addr_add, addr_add] at g0
        rw [hget j hj]
        exact g0
    · intro p hp
      simp only [List.mem_map, List.mem_range] at hp
      obtain ⟨i, hi, rfl⟩ := hp
      exact (hF i hi).2

theorem mc3 : Try.prog.cellsOf 3 = 1 := by kernel_rfl
theorem mb3 : Try.prog.bytesOf 3 = 8 := by kernel_rfl
theorem mc5 : Try.prog.cellsOf 5 = 1 := by kernel_rfl
theorem mb5 : Try.prog.bytesOf 5 = 1 := by kernel_rfl
section
variable {H : Type} {enc : TypeId × Value → H} {W : World} {held : Bool}
theorem reach_eq : reachBytes = 140737488351232 := by decide
/-- a list's header -/
theorem is_slice {t e : TypeId} (ht : Try.prog.underlying t = some (.slice e)) {fuel : Nat} {c : Value} {x : DataW H × List MemPlace} (h : DataW.trod enc Try.prog W 0 (fun _ => true) held fuel t [c] = some x) : ∃ a len cap, c = .slice a len cap := by
  rcases open_slice ht h with ⟨hcs, hx⟩ | ⟨y, l, c, m, n, D, Pl, hcs, _⟩
  · exact ⟨_, _, _, by simpa using hcs⟩
  · exact ⟨_, _, _, by simpa using hcs⟩
/-- fields' weights -/
theorem each_mem {t : TypeId} {fs : Array Field} (ht : Try.prog.underlying t = some (.struct fs)) {xs : List (DataW H × List MemPlace)} (hw : ∀ n ∈ (DataW.agg (xs.map (·.1))).weights Try.prog t, n ≤ reachBytes) {j : Nat} {f : Field} {x : DataW H × List MemPlace} (hj : fs.toList[j]? = some f) (hx : xs[j]? = some x) : ∀ n ∈ x.1.weights Try.prog f.type, n ≤ reachBytes := by
  intro n hn
  refine hw n ?_
  simp only [DataW.weights, ht]
  exact DataW.weights_mem_each (j := j) (t := f.type) (d := x.1) (by simp [hj]) (by simp [hx]) n hn
theorem bv_of {z : Int} (h : 0 ≤ z ∧ z ≤ 255) : Value.int .u8 z = bv (UInt8.ofNat z.toNat) := by
  unfold bv
  have : (UInt8.ofNat z.toNat).toNat = z.toNat := by simp; omega
  rw [this]
  congr 1
  omega
theorem one_byte (fuel : Nat) (cs : List Value) (x : DataW H × List MemPlace) (h : DataW.trod enc Try.prog W 0 (fun _ => true) held fuel 5 cs = some x) : ∃ c : UInt8, cs = BE.enc c := by
  obtain ⟨z, e, _, w⟩ := DataW.trod_int (k := .u8) Try.underlying5 h
  have hb := bounds_u8 w
  exact ⟨UInt8.ofNat z.toNat, by rw [e]; show [_] = [bv _]; rw [bv_of (by omega)]⟩
theorem open_bytes {fuel : Nat} {a : Option Addr} {len cap : Nat} {x : DataW H × List MemPlace}
    (hf : DataW.trod enc Try.prog W 0 (fun _ => true) held fuel 22 [.slice a len cap] = some x) (hw : ∀ n ∈ x.1.weights Try.prog 22, n ≤ reachBytes) :
    ∃ bs : List UInt8, len = bs.length ∧ Sl BE W a cap bs ∧ bs.length ≤ 140737488355328 := by
  obtain ⟨l, h1, h2, h3, h4⟩ := open_list BE okB 0 (fun _ => True) mc5 mb5 (fun fuel cs x h hw => by
    obtain ⟨c, e⟩ := one_byte fuel cs x h
    exact ⟨c, e, trivial⟩) hf hw
  have hc : l.length ≤ cap := h2.cap
  have h5 : cap * 1 ≤ reachBytes := h4
  rw [reach_eq] at h5
  exact ⟨l, h1.symm, h2, by omega⟩
theorem one_z (fuel : Nat) (cs : List Value) (x : DataW H × List MemPlace) (h : DataW.trod enc Try.prog W 0 (fun _ => true) held fuel 3 cs = some x) : ∃ z : Int, cs = [.int .i64 z] := by
  obtain ⟨z, e, _, w⟩ := DataW.trod_int (k := .i64) Try.underlying3 h
  exact ⟨z, e⟩
theorem mcO : Try.prog.cellsOf 42 = 5 := by kernel_rfl
theorem mbO : Try.prog.bytesOf 42 = 56 := by kernel_rfl
def FitO (W : World) (r : RO) : Prop := ∃ bs : List UInt8, r.n = bs.length ∧ Sl BE W r.o r.c bs ∧ bs.length ≤ 140737488355328
set_option maxRecDepth 100000 in
theorem one_op (fuel : Nat) (cs : List Value) (x : DataW H × List MemPlace) (h : DataW.trod enc Try.prog W 0 (fun _ => true) held fuel 42 cs = some x) (hw : ∀ n ∈ x.1.weights Try.prog 42, n ≤ reachBytes) : ∃ p : RO, cs = OE.enc p ∧ FitO W p := by
  obtain ⟨xs, n, _, rfl, hlen, hxl, hfs⟩ := DataW.trod_struct Try.underlying42 h
  rw [mcO] at hlen
  match cs, hlen with
  | [c0, c1, c2, c3, c4], _ =>
    have hxl2 : xs.length = 5 := hxl
    match xs, hxl2 with
    | [x0, x1, x2, x3, x4], _ =>
      obtain ⟨a0, q0⟩ := one_z _ _ _ (hfs 0 _ rfl)
      obtain ⟨a1, q1⟩ := one_z _ _ _ (hfs 1 _ rfl)
      obtain ⟨a2, q2⟩ := one_z _ _ _ (hfs 2 _ rfl)
      obtain ⟨a3, q3⟩ := one_z _ _ _ (hfs 3 _ rfl)
      obtain ⟨v4, n4, d4, q4⟩ := is_slice Try.underlying22 (c := c4) (hfs 4 _ rfl)
      subst q4
      obtain ⟨bs, e1, e2, e3⟩ := open_bytes (hfs 4 _ rfl) (each_mem Try.underlying42 (j := 4) hw rfl rfl)
      have p0 : [c0] = [Value.int .i64 a0] := q0
      have p1 : [c1] = [Value.int .i64 a1] := q1
      have p2 : [c2] = [Value.int .i64 a2] := q2
      have p3 : [c3] = [Value.int .i64 a3] := q3
      injection p0 with p0 _
      injection p1 with p1 _
      injection p2 with p2 _
      injection p3 with p3 _
      subst p0 p1 p2 p3
      exact ⟨⟨a0, a1, a2, a3, v4, n4, d4⟩, rfl, bs, e1, e2, e3⟩
theorem open_ops {fuel : Nat} {a : Option Addr} {len cap : Nat} {x : DataW H × List MemPlace}
    (hf : DataW.trod enc Try.prog W 0 (fun _ => true) held fuel 39 [.slice a len cap] = some x) (hw : ∀ n ∈ x.1.weights Try.prog 39, n ≤ reachBytes) :
    ∃ l : List RO, len = l.length ∧ Sl OE W a cap l ∧ (∀ r ∈ l, FitO W r) ∧ l.length ≤ 2513169434916 := by
  obtain ⟨l, h1, h2, h3, h4⟩ := open_list OE okO ro0 (FitO W) mcO mbO (fun fuel cs x h hw => one_op fuel cs x h hw) hf hw
  have hc : l.length ≤ cap := h2.cap
  have h5 : cap * 56 ≤ reachBytes := h4
  rw [reach_eq] at h5
  exact ⟨l, h1.symm, h2, h3, by omega⟩
theorem weights_of {d : DataW H} {ts : List TypeId} {ds : List (DataW H)} (hsz : (DataW.weightsEach Try.prog ts ds).all (· ≤ reachBytes) = true) {t : TypeId} {j : Nat} (ht : ts[j]? = some t) (hd : ds[j]? = some d) : ∀ n ∈ d.weights Try.prog t, n ≤ reachBytes := fun n hn => by
  have := List.all_eq_true.1 hsz n (DataW.weights_mem_each (j := j) ht hd n hn)
  simpa using this
end
end Go.Proofs.Ytdbejihkliafiaa
