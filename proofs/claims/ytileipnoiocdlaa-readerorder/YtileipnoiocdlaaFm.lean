import Derived.Test.YtileipnoiocdlaaWD
import Derived.Deep.Slices
import Derived.ProofKit
import Derived.OpenShut
import Derived.JoinedCond
import Derived.SizedLaws
import Derived.Deep.Strs
import Derived.Deep.DeepHandedRow
import Derived.Lib.LaidTab
/- What came in: texts, writes, worlds. -/
namespace Go.Proofs.Ytileipnoiocdlaa
open Go.ChangeShapes Go.WideShapes Go.ChangeAt Go.RowKit Go.Deep
set_option linter.unusedVariables false
set_option linter.unusedSimpArgs false

theorem own : ownKnob Try.prog.godebug = none := by kernel_rfl
theorem laidOut : laidOutB Try.prog = true := by kernel_rfl
theorem weightsAll_mem {H : Type} {P : Program} {e : TypeId} : ∀ {l : List (DataW H)} {d : DataW H}, d ∈ l → ∀ n ∈ d.weights P e, n ∈ DataW.weightsAll P e l := by
  intro l
  induction l with
  | nil => intro d h; cases h
  | cons x l ih =>
    intro d h n hn
    simp only [DataW.weightsAll, List.mem_append]
    rcases List.mem_cons.mp h with rfl | h
    · exact .inl hn
    · exact .inr (ih h n hn)
theorem str_len (s : ByteArray) : s.data.toList.length = s.size := by rw [Array.length_toList]; rfl
theorem mcells?_get {w : World} {base : Nat} {a : Addr} {n : Nat} {cs : List Value} (h : w.cells? base a n = some cs) : base ≤ a.block ∧ cs.length = n ∧ ∀ i, i < n → w.cell? (a.add i) = cs[i]? := by
  unfold World.cells? at h
  split at h
  · rename_i hb
    have hl := mapM_some_length h
    refine ⟨hb, by simpa using hl, fun i hi => ?_⟩
    have := mapM_some_get h i i (by simp [hi])
    simpa using this
  · cases h

theorem row_of_el {α : Type} {E : El α} (hE : E.Ok) (z : α) {W : World} {b off : Nat} {ss : List α} (h : ∀ j, j < ss.length → ∀ k, k < E.k → W.cell? ⟨b, off + j * E.k + k, none⟩ = (E.enc (ss.getD j z))[k]?) : Row E W (some ⟨b, off, none⟩) ss := by
  refine .inr ⟨b, off, rfl, fun j u hj => ?_⟩
  have hjl : j < ss.length * E.k := by
    have := (List.getElem?_eq_some_iff.mp hj).1
    rw [cells_length hE] at this
    exact this
  have hp := hE.pos
  have hd : j / E.k < ss.length := (Nat.div_lt_iff_lt_mul hp).2 hjl
  have hm : j % E.k < E.k := Nat.mod_lt _ hp
  have hc := cells_at hE z ss (j / E.k) (j % E.k) hd hm
  have hjj : j / E.k * E.k + j % E.k = j := Nat.div_add_mod' j E.k
  rw [hjj, hj] at hc
  have hh := h (j / E.k) hd (j % E.k) hm
  rw [Nat.add_assoc, hjj] at hh
  rw [hh, ← hc]

/-- a list of any kind, each element opened by its own -/
theorem open_list {α : Type} (E : El α) (hE : E.Ok) (z : α) (OKp : α → Prop) (hcl : Try.prog.cellsOf E.e = E.k) (hby : Try.prog.bytesOf E.e = E.nb)
    {H : Type} {enc : TypeId × Value → H} {W : World} {held : Bool}
    (one : ∀ (fuel : Nat) (cs : List Value) (x : DataW H × List MemPlace), DataW.trod enc Try.prog W 0 (fun _ => true) held fuel E.e cs = some x → (∀ n ∈ x.1.weights Try.prog E.e, n ≤ reachBytes) → ∃ p, cs = E.enc p ∧ OKp p)
    {fuel : Nat} {a : Option Addr} {len cap : Nat} {x : DataW H × List MemPlace}
    (hf : DataW.trod enc Try.prog W 0 (fun _ => true) held fuel E.t [.slice a len cap] = some x) (hw : ∀ n ∈ x.1.weights Try.prog E.t, n ≤ reachBytes) :
    ∃ ps : List α, ps.length = len ∧ Sl E W a cap ps ∧ (∀ p ∈ ps, OKp p) ∧ cap * E.nb ≤ reachBytes := by
  rcases open_slice hE.und hf with ⟨hcs, hx⟩ | ⟨y, l, c, m, n, D, Pl, hcs, _, hl, hm, hmm, hx, hel⟩
  · simp at hcs
    obtain ⟨rfl, rfl, rfl⟩ := hcs
    exact ⟨[], rfl, ⟨.inl rfl, by simp, fun _ => rfl⟩, fun p hp => (by cases hp), by simp [reachBytes]⟩
  · simp at hcs
    obtain ⟨rfl, rfl, rfl⟩ := hcs
    have hmm' : m = cap := by simpa using hmm
    subst hmm'
    have hw' : ∀ n ∈ (DataW.slice ((List.range len).map D) ((List.range (m - len)).map fun j => D (len + j))).weights Try.prog E.t, n ≤ reachBytes := by rw [hx] at hw; exact hw
    simp only [DataW.weights, hE.und] at hw'
    have hcapw := hw' _ (List.mem_cons_self)
    rw [hby] at hcapw
    simp only [List.length_map, List.length_range] at hcapw
    rw [show len + (m - len) = m by omega] at hcapw
    have each : ∀ i, i < len → ∃ p : α, (W.cells? 0 (y.add (i * E.k)) E.k = some (E.enc p)) ∧ OKp p := by
      intro i hi
      obtain ⟨cs', hc, ht⟩ := hel i (by omega)
      rw [hcl] at hc
      obtain ⟨p, rfl, h2⟩ := one n cs' _ ht (fun k hk => hw' k (List.mem_cons_of_mem _ (List.mem_append_left _ (weightsAll_mem (List.mem_map.2 ⟨i, by simp [hi], rfl⟩) k hk))))
      exact ⟨p, hc, h2⟩
    have inh : Inhabited α := ⟨z⟩
    obtain ⟨F, hF⟩ := choose_lt each
    have hget : ∀ j, j < len → ((List.range len).map F).getD j z = F j := fun j hj => by simp [List.getD_eq_getElem?_getD, hj]
    refine ⟨(List.range len).map F, by simp, ⟨?_, by simpa using hl, fun h => (by cases h)⟩, ?_, hcapw⟩
    · by_cases h0 : len = 0
      · left; subst h0; simp
      · obtain ⟨b, off, spot⟩ := y
        obtain ⟨_, hl2, hce⟩ := mcells?_get (hF 0 (by omega)).1
        have hc0 := hce 0 hE.pos
        have hspot : spot = none := by
          have h7 : (E.enc (F 0))[0]? = some ((E.enc (F 0))[0]'(by rw [hE.len]; exact hE.pos)) := List.getElem?_eq_getElem _
          rw [h7] at hc0
          simpa [Addr.add] using World.cell?_spot hc0
        subst hspot
        refine row_of_el hE z fun j hj k hk => ?_
        simp at hj
        obtain ⟨_, _, hce⟩ := mcells?_get (hF j hj).1
        have g0 := hce k hk
        rw [addr_add, addr_add] at g0
        rw [hget j hj]
        exact g0
    · intro p hp
      simp only [List.mem_map, List.mem_range] at hp
      obtain ⟨i, hi, rfl⟩ := hp
      exact (hF i hi).2

theorem mc9 : Try.prog.cellsOf 9 = 1 := by kernel_rfl
theorem mb9 : Try.prog.bytesOf 9 = 16 := by kernel_rfl
theorem mc3 : Try.prog.cellsOf 3 = 1 := by kernel_rfl
theorem mb3 : Try.prog.bytesOf 3 = 8 := by kernel_rfl

section
variable {H : Type} {enc : TypeId × Value → H} {W : World} {held : Bool}
theorem reach_eq : reachBytes = 140737488351232 := by decide
theorem one_text (fuel : Nat) (cs : List Value) (x : DataW H × List MemPlace) (h : DataW.trod enc Try.prog W 0 (fun _ => true) held fuel 9 cs = some x) (hw : ∀ n ∈ x.1.weights Try.prog 9, n ≤ reachBytes) :
    ∃ p : Tx, cs = [.string p] ∧ p.size ≤ 140737488351232 := by
  obtain ⟨s, rfl, rfl, _⟩ := DataW.trod_string Try.underlying9 h
  refine ⟨s, rfl, ?_⟩
  have := hw s.data.toList.length (by simp [DataW.weights])
  rw [str_len, reach_eq] at this
  exact this
/-- a list's header -/
theorem is_slice {t e : TypeId} (ht : Try.prog.underlying t = some (.slice e)) {fuel : Nat} {c : Value} {x : DataW H × List MemPlace} (h : DataW.trod enc Try.prog W 0 (fun _ => true) held fuel t [c] = some x) : ∃ a len cap, c = .slice a len cap := by
  rcases open_slice ht h with ⟨hcs, hx⟩ | ⟨y, l, c, m, n, D, Pl, hcs, _⟩
  · exact ⟨_, _, _, by simpa using hcs⟩
  · exact ⟨_, _, _, by simpa using hcs⟩
theorem open_txs {fuel : Nat} {a : Option Addr} {len cap : Nat} {x : DataW H × List MemPlace}
    (hf : DataW.trod enc Try.prog W 0 (fun _ => true) held fuel 23 [.slice a len cap] = some x) (hw : ∀ n ∈ x.1.weights Try.prog 23, n ≤ reachBytes) :
    ∃ ss : List Tx, ss.length = len ∧ Sl TE W a cap ss ∧ (∀ s ∈ ss, s.size ≤ 140737488351232) ∧ cap * 16 ≤ reachBytes :=
  open_list TE okT e0 (fun p => p.size ≤ 140737488351232) mc9 mb9 (fun fuel cs x h hw => one_text fuel cs x h hw) hf hw
/-- fields' weights -/
theorem each_mem {t : TypeId} {fs : Array Field} (ht : Try.prog.underlying t = some (.struct fs)) {xs : List (DataW H × List MemPlace)} (hw : ∀ n ∈ (DataW.agg (xs.map (·.1))).weights Try.prog t, n ≤ reachBytes) {j : Nat} {f : Field} {x : DataW H × List MemPlace} (hj : fs.toList[j]? = some f) (hx : xs[j]? = some x) : ∀ n ∈ x.1.weights Try.prog f.type, n ≤ reachBytes := by
  intro n hn
  refine hw n ?_
  simp only [DataW.weights, ht]
  exact DataW.weights_mem_each (j := j) (t := f.type) (d := x.1) (by simp [hj]) (by simp [hx]) n hn
theorem u64_nat {z : Int} (w : (Lit.int .u64 z).wf = true) : ∃ n : Nat, z = (n : Int) ∧ n < 18446744073709551616 := by
  have := bounds_u64 w
  exact ⟨z.toNat, by omega, by omega⟩
theorem weights_of {d : DataW H} {ts : List TypeId} {ds : List (DataW H)} (hsz : (DataW.weightsEach Try.prog ts ds).all (· ≤ reachBytes) = true) {t : TypeId} {j : Nat} (ht : ts[j]? = some t) (hd : ds[j]? = some d) : ∀ n ∈ d.weights Try.prog t, n ≤ reachBytes := fun n hn => by
  have := List.all_eq_true.1 hsz n (DataW.weights_mem_each (j := j) ht hd n hn)
  simpa using this
theorem mcW : Try.prog.cellsOf 93 = 2 := by kernel_rfl
theorem mbW : Try.prog.bytesOf 93 = 32 := by kernel_rfl
theorem mcWd : Try.prog.cellsOf 59 = 2 := by kernel_rfl
theorem ctWd : Try.prog.cellTypes Try.prog.depth 59 = some [3, 57] := by kernel_rfl
def OkW (W : World) (r : RWr) : Prop := ∃ x : Wr, WrOf W r x ∧ FitT x.1 ∧ x.2 < 18446744073709551616
set_option maxRecDepth 100000 in
theorem one_wr (fuel : Nat) (cs : List Value) (x : DataW H × List MemPlace) (h : DataW.trod enc Try.prog W 0 (fun _ => true) held fuel 93 cs = some x) (hw : ∀ n ∈ x.1.weights Try.prog 93, n ≤ reachBytes) :
    ∃ p : RWr, cs = WrE.enc p ∧ OkW W p := by
  obtain ⟨xs, n, _, rfl, hlen, hxl, hfs⟩ := DataW.trod_struct Try.underlying93 h
  rw [mcW] at hlen
  match cs, hlen with
  | [c0, c1], _ =>
    have hxl2 : xs.length = 2 := hxl
    match xs, hxl2 with
    | [x0, x1], _ =>
      have t0 := hfs 0 _ rfl
      obtain ⟨a, len, cap, e0⟩ := is_slice (c := c0) Try.underlying23 t0
      subst e0
      obtain ⟨ss, hl, hsl, hsz, hcp⟩ := open_txs t0 (each_mem Try.underlying93 (j := 0) hw rfl rfl)
      obtain ⟨i1, e1, _, w1⟩ := DataW.trod_int (k := .u64) Try.underlying25 (hfs 1 _ rfl)
      have q1 : [c1] = [Value.int .u64 i1] := e1
      injection q1 with q1 _
      subst q1
      obtain ⟨m, rfl, hm⟩ := u64_nat w1
      rw [reach_eq] at hcp
      have := hsl.cap
      exact ⟨⟨a, len, cap, m⟩, rfl, (ss, m), ⟨hl.symm, hsl, rfl⟩, ⟨by show ss.length ≤ _; omega, hsz⟩, hm⟩
theorem wrs_of {W : World} {ov : Option Addr} {cv : Nat} {rs : List RWr} (hs : Sl WrE W ov cv rs) (h : ∀ r ∈ rs, OkW W r) : ∃ ws : List Wr, Wrs W ov cv rs ws ∧ (∀ x ∈ ws, FitT x.1) ∧ (∀ x ∈ ws, x.2 < 18446744073709551616) := by
  have key : ∃ vs : List Wr, rs.length = vs.length ∧ (∀ j, j < vs.length → WrOf W (rs.getD j rw0) (vs.getD j wr0)) ∧ (∀ v ∈ vs, FitT v.1) ∧ (∀ v ∈ vs, v.2 < 18446744073709551616) := by
    clear hs
    induction rs with
    | nil => exact ⟨[], rfl, fun j hj => (by simp at hj), by simp, by simp⟩
    | cons r rs ih =>
      obtain ⟨v, h1, h2, h3⟩ := h r (by simp)
      obtain ⟨vs, e, g1, g2, g3⟩ := ih (fun r hr => h r (by simp [hr]))
      refine ⟨v :: vs, by simp [e], ?_, ?_, ?_⟩
      · intro j hj
        cases j with
        | zero => exact h1
        | succ j => exact g1 j (by simpa using hj)
      · intro u hu
        rcases List.mem_cons.1 hu with rfl | hu
        · exact h2
        · exact g2 u hu
      · intro u hu
        rcases List.mem_cons.1 hu with rfl | hu
        · exact h3
        · exact g3 u hu
  obtain ⟨vs, e, g1, g2, g3⟩ := key
  exact ⟨vs, ⟨hs, e, g1⟩, g2, g3⟩
theorem open_wrs {fuel : Nat} {a : Option Addr} {len cap : Nat} {x : DataW H × List MemPlace}
    (h : DataW.trod enc Try.prog W 0 (fun _ => true) held fuel 57 [.slice a len cap] = some x) (hw : ∀ n ∈ x.1.weights Try.prog 57, n ≤ reachBytes) :
    ∃ (rs : List RWr) (ws : List Wr), len = ws.length ∧ Wrs W a cap rs ws ∧ FitWs ws := by
  obtain ⟨l, h1, h2, h3, h4⟩ := open_list WrE okWr rw0 (OkW W) mcW mbW (fun fuel cs x h hw => one_wr fuel cs x h hw) h hw
  obtain ⟨ws, g1, g2, g3⟩ := wrs_of h2 h3
  have hr := reach_eq
  have hc : l.length ≤ cap := h2.cap
  have h5 : cap * 32 ≤ reachBytes := h4
  rw [hr] at h5
  refine ⟨l, ws, by rw [← h1, g1.len], g1, ⟨by rw [← g1.len]; omega, g2, g3⟩⟩
set_option maxRecDepth 100000 in
theorem open_wd {base : Nat} {v : Value} {d : DataW H} {p : List MemPlace} (hv : Value.okWide Try.prog W .any base 59 v) (h : DataW.Trod enc Try.prog W 0 (fun _ => true) held 59 v d p) (hw : ∀ n ∈ d.weights Try.prog 59, n ≤ reachBytes) :
    ∃ (P : Int) (o : Option Addr) (n c : Nat) (rs : List RWr) (ws : List Wr), v = aggWd P o n c ∧ n = ws.length ∧ Wrs W o c rs ws ∧ FitWs ws ∧ (-9223372036854775808 ≤ P ∧ P < 9223372036854775808) := by
  simp only [Value.okWide, Try.underlying59] at hv
  obtain ⟨⟨cs⟩, rfl, hsz, ts, hts, _, hc⟩ := hv
  rw [ctWd] at hts
  cases hts
  obtain ⟨fuel, hf⟩ := h
  obtain ⟨xs, n, _, hx, hlen, hxl, hff⟩ := DataW.trod_struct Try.underlying59 hf
  obtain ⟨rfl, rfl⟩ := Prod.mk.inj hx
  rw [mcWd] at hsz
  match cs, hsz with
  | [c0, c1], _ =>
    have hxl2 : xs.length = 2 := hxl
    match xs, hxl2 with
    | [y0, y1], _ =>
      obtain ⟨z0, e0, _, w0⟩ := DataW.trod_int (k := .i64) Try.underlying3 (hff 0 _ rfl)
      have f1 := hff 1 _ rfl
      obtain ⟨so, sn, sc, e1⟩ := is_slice (c := c1) Try.underlying57 f1
      subst e1
      have q0 : [c0] = [Value.int .i64 z0] := e0
      injection q0 with q0 _
      subst q0
      obtain ⟨rs, ws, h1, h2, h3⟩ := open_wrs f1 (each_mem Try.underlying59 (j := 1) hw rfl rfl)
      have hb := bounds_i64 w0
      exact ⟨z0, so, sn, sc, rs, ws, rfl, h1, h2, h3, by omega⟩
theorem open_tl {fuel : Nat} {a : Option Addr} {len cap : Nat} {x : DataW H × List MemPlace}
    (hf : DataW.trod enc Try.prog W 0 (fun _ => true) held fuel 23 [.slice a len cap] = some x) (hw : ∀ n ∈ x.1.weights Try.prog 23, n ≤ reachBytes) :
    ∃ ss : List Tx, len = ss.length ∧ FitT ss ∧ Sl TE W a cap ss := by
  obtain ⟨ss, h1, h2, h3, h4⟩ := open_txs hf hw
  rw [reach_eq] at h4
  have := h2.cap
  exact ⟨ss, h1.symm, ⟨by omega, h3⟩, h2⟩
theorem one_int (fuel : Nat) (cs : List Value) (x : DataW H × List MemPlace) (h : DataW.trod enc Try.prog W 0 (fun _ => true) held fuel 3 cs = some x) (hw : ∀ n ∈ x.1.weights Try.prog 3, n ≤ reachBytes) :
    ∃ p : Int, cs = [.int .i64 p] ∧ I64 p := by
  obtain ⟨i, e, _, w⟩ := DataW.trod_int (k := .i64) Try.underlying3 h
  have b := bounds_i64 w
  exact ⟨i, e, b⟩
theorem open_zs {fuel : Nat} {a : Option Addr} {len cap : Nat} {x : DataW H × List MemPlace}
    (hf : DataW.trod enc Try.prog W 0 (fun _ => true) held fuel 69 [.slice a len cap] = some x) (hw : ∀ n ∈ x.1.weights Try.prog 69, n ≤ reachBytes) :
    ∃ zs : List Int, len = zs.length ∧ (∀ z ∈ zs, I64 z) ∧ zs.length ≤ 17592186044416 ∧ Sl ZE W a cap zs := by
  obtain ⟨zs, h1, h2, h3, h4⟩ := open_list ZE okZ 0 I64 mc3 mb3 (fun fuel cs x h hw => one_int fuel cs x h hw) hf hw
  have h5 : cap * 8 ≤ reachBytes := h4
  rw [reach_eq] at h5
  have := h2.cap
  exact ⟨zs, h1.symm, h3, by omega, h2⟩
end
end Go.Proofs.Ytileipnoiocdlaa
