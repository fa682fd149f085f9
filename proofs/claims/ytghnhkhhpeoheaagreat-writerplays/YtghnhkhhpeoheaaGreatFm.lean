/- What came in: lists of pairs. -/
import Derived.Test.YtghnhkhhpeoheaaGreatS0
import Derived.Deep.Slices
import Derived.ProofKit
import Derived.OpenShut
import Derived.JoinedCond
import Derived.SizedLaws
import Derived.Deep.Strs
import Derived.Deep.DeepHandedRow
import Derived.Lib.LaidTab
namespace Go.Proofs.YtghnhkhhpeoheaaGreat
open Go.ChangeShapes Go.WideShapes Go.ChangeAt Go.RowKit Go.Deep
set_option linter.unusedVariables false
set_option linter.unusedSimpArgs false

theorem own : ownKnob Tryz.prog.godebug = none := by kernel_rfl
theorem laidOut : laidOutB Tryz.prog = true := by kernel_rfl
theorem weightsAll_mem {H : Type} {P : Program} {e : TypeId} : ∀ {l : List (DataW H)} {d : DataW H}, d ∈ l → ∀ n ∈ d.weights P e, n ∈ DataW.weightsAll P e l := by
  intro l
  induction l with
  | nil => intro d h; cases h
  | cons x l ih =>
    intro d h n hn
    simp only [DataW.weightsAll, List.mem_append]
    rcases List.mem_cons.mp h with rfl | h
    · exact .inl hn
    · exact .inr (ih h n hn)
theorem str_len (s : ByteArray) : s.data.toList.length = s.size := by rw [Array.length_toList]; rfl
theorem mcells?_get {w : World} {base : Nat} {a : Addr} {n : Nat} {cs : List Value} (h : w.cells? base a n = some cs) : base ≤ a.block ∧ cs.length = n ∧ ∀ i, i < n → w.cell? (a.add i) = cs[i]? := by
  unfold World.cells? at h
  split at h
  · rename_i hb
    have hl := mapM_some_length h
    refine ⟨hb, by simpa using hl, fun i hi => ?_⟩
    have := mapM_some_get h i i (by simp [hi])
    simpa using this
  · cases h

theorem row_of_el {α : Type} {E : El α} (hE : E.Ok) (z : α) {W : World} {b off : Nat} {ss : List α} (h : ∀ j, j < ss.length → ∀ k, k < E.k → W.cell? ⟨b, off + j * E.k + k, none⟩ = (E.enc (ss.getD j z))[k]?) : Row E W (some ⟨b, off, none⟩) ss := by
  refine .inr ⟨b, off, rfl, fun j u hj => ?_⟩
  have hjl : j < ss.length * E.k := by
    have := (List.getElem?_eq_some_iff.mp hj).1
    rw [cells_length hE] at this
    exact this
  have hp := hE.pos
  have hd : j / E.k < ss.length := (Nat.div_lt_iff_lt_mul hp).2 hjl
  have hm : j % E.k < E.k := Nat.mod_lt _ hp
  have hc := cells_at hE z ss (j / E.k) (j % E.k) hd hm
  have hjj : j / E.k * E.k + j % E.k = j := Nat.div_add_mod' j E.k
  rw [hjj, hj] at hc
  have hh := h (j / E.k) hd (j % E.k) hm
  rw [Nat.add_assoc, hjj] at hh
  rw [hh, ← hc]

/-- a list of any kind, each element opened by its own -/
theorem open_list {α : Type} (E : El α) (hE : E.Ok) (z : α) (OKp : α → Prop) (hcl : Tryz.prog.cellsOf E.e = E.k) (hby : Tryz.prog.bytesOf E.e = E.nb)
    {H : Type} {enc : TypeId × Value → H} {W : World} {held : Bool}
    (one : ∀ (fuel : Nat) (cs : List Value) (x : DataW H × List MemPlace), DataW.trod enc Tryz.prog W 0 (fun _ => true) held fuel E.e cs = some x → (∀ n ∈ x.1.weights Tryz.prog E.e, n ≤ reachBytes) → ∃ p, cs = E.enc p ∧ OKp p)
    {fuel : Nat} {a : Option Addr} {len cap : Nat} {x : DataW H × List MemPlace}
    (hf : DataW.trod enc Tryz.prog W 0 (fun _ => true) held fuel E.t [.slice a len cap] = some x) (hw : ∀ n ∈ x.1.weights Tryz.prog E.t, n ≤ reachBytes) :
    ∃ ps : List α, ps.length = len ∧ Sl E W a cap ps ∧ (∀ p ∈ ps, OKp p) ∧ cap * E.nb ≤ reachBytes := by
  rcases open_slice hE.und hf with ⟨hcs, hx⟩ | ⟨y, l, c, m, n, D, Pl, hcs, _, hl, hm, hmm, hx, hel⟩
  · simp at hcs
    obtain ⟨rfl, rfl, rfl⟩ := hcs
    exact ⟨[], rfl, ⟨.inl rfl, by simp, fun _ => rfl⟩, fun p hp => (by cases hp), by simp [reachBytes]⟩
  · simp at hcs
    obtain ⟨rfl, rfl, rfl⟩ := hcs
    have hmm' : m = cap := by simpa using hmm
    subst hmm'
    have hw' : ∀ n ∈ (DataW.slice ((List.range len).map D) ((List.range (m - len)).map fun j => D (len + j))).weights Tryz.prog E.t, n ≤ reachBytes := by rw [hx] at hw; exact hw
    simp only [DataW.weights, hE.und] at hw'
    have hcapw := hw' _ (List.mem_cons_self)
    rw [hby] at hcapw
    simp only [List.length_map, List.length_range] at hcapw
    rw [show len + (m - len) = m by omega] at hcapw
    have each : ∀ i, i < len → ∃ p : α, (W.cells? 0 (y.add (i * E.k)) E.k = some (E.enc p)) ∧ OKp p := by
      intro i hi
      obtain ⟨cs', hc, ht⟩ := hel i (by omega)
      rw [hcl] at hc
      obtain ⟨p, rfl, h2⟩ := one n cs' _ ht (fun k hk => hw' k (List.mem_cons_of_mem _ (List.mem_append_left _ (weightsAll_mem (List.mem_map.2 ⟨i, by simp [hi], rfl⟩) k hk))))
      exact ⟨p, hc, h2⟩
    have inh : Inhabited α := ⟨z⟩
    obtain ⟨F, hF⟩ := choose_lt each
    have hget : ∀ j, j < len → ((List.range len).map F).getD j z = F j := fun j hj => by simp [List.getD_eq_getElem?_getD, hj]
    refine ⟨(List.range len).map F, by simp, ⟨?_, by simpa using hl, fun h => (by cases h)⟩, ?_, hcapw⟩
    · by_cases h0 : len = 0
      · left; subst h0; simp
      · obtain ⟨b, off, spot⟩ := y
        obtain ⟨_, hl2, hce⟩ := mcells?_get (hF 0 (by omega)).1
        have hc0 := hce 0 hE.pos
        have hspot : spot = none := by
          have h7 : (E.enc (F 0))[0]? = some ((E.enc (F 0))[0]'(by rw [hE.len]; exact hE.pos)) := List.getElem?_eq_getElem _
          rw [h7] at hc0
          simpa [Addr.add] using World.cell?_spot hc0
        subst hspot
        refine row_of_el hE z fun j hj k hk => ?_
        simp at hj
        obtain ⟨_, _, hce⟩ := mcells?_get (hF j hj).1
        have g0 := hce k hk
        rw [addr_add, addr_add] at g0
        rw [hget j hj]
        exact g0
    · intro p hp
      simp only [List.mem_map, List.mem_range] at hp
      obtain ⟨i, hi, rfl⟩ := hp
      exact (hF i hi).2

theorem mc9 : Tryz.prog.cellsOf 9 = 1 := by kernel_rfl
theorem mb9 : Tryz.prog.bytesOf 9 = 16 := by kernel_rfl
theorem mc3 : Tryz.prog.cellsOf 3 = 1 := by kernel_rfl
theorem mb3 : Tryz.prog.bytesOf 3 = 8 := by kernel_rfl

section
variable {H : Type} {enc : TypeId × Value → H} {W : World} {held : Bool}
theorem reach_eq : reachBytes = 140737488351232 := by decide
theorem one_text (fuel : Nat) (cs : List Value) (x : DataW H × List MemPlace) (h : DataW.trod enc Tryz.prog W 0 (fun _ => true) held fuel 9 cs = some x) (hw : ∀ n ∈ x.1.weights Tryz.prog 9, n ≤ reachBytes) :
    ∃ p : Tx, cs = [.string p] ∧ p.size ≤ 140737488351232 := by
  obtain ⟨s, rfl, rfl, _⟩ := DataW.trod_string Tryz.underlying9 h
  refine ⟨s, rfl, ?_⟩
  have := hw s.data.toList.length (by simp [DataW.weights])
  rw [str_len, reach_eq] at this
  exact this
/-- a list's header -/
theorem is_slice {t e : TypeId} (ht : Tryz.prog.underlying t = some (.slice e)) {fuel : Nat} {c : Value} {x : DataW H × List MemPlace} (h : DataW.trod enc Tryz.prog W 0 (fun _ => true) held fuel t [c] = some x) : ∃ a len cap, c = .slice a len cap := by
  rcases open_slice ht h with ⟨hcs, hx⟩ | ⟨y, l, c, m, n, D, Pl, hcs, _⟩
  · exact ⟨_, _, _, by simpa using hcs⟩
  · exact ⟨_, _, _, by simpa using hcs⟩
theorem open_txs {fuel : Nat} {a : Option Addr} {len cap : Nat} {x : DataW H × List MemPlace}
    (hf : DataW.trod enc Tryz.prog W 0 (fun _ => true) held fuel 41 [.slice a len cap] = some x) (hw : ∀ n ∈ x.1.weights Tryz.prog 41, n ≤ reachBytes) :
    ∃ ss : List Tx, ss.length = len ∧ Sl TE W a cap ss ∧ (∀ s ∈ ss, s.size ≤ 140737488351232) ∧ cap * 16 ≤ reachBytes :=
  open_list TE okT e0 (fun p => p.size ≤ 140737488351232) mc9 mb9 (fun fuel cs x h hw => one_text fuel cs x h hw) hf hw
/-- fields' weights -/
theorem each_mem {t : TypeId} {fs : Array Field} (ht : Tryz.prog.underlying t = some (.struct fs)) {xs : List (DataW H × List MemPlace)} (hw : ∀ n ∈ (DataW.agg (xs.map (·.1))).weights Tryz.prog t, n ≤ reachBytes) {j : Nat} {f : Field} {x : DataW H × List MemPlace} (hj : fs.toList[j]? = some f) (hx : xs[j]? = some x) : ∀ n ∈ x.1.weights Tryz.prog f.type, n ≤ reachBytes := by
  intro n hn
  refine hw n ?_
  simp only [DataW.weights, ht]
  exact DataW.weights_mem_each (j := j) (t := f.type) (d := x.1) (by simp [hj]) (by simp [hx]) n hn
theorem u64_nat {z : Int} (w : (Lit.int .u64 z).wf = true) : ∃ n : Nat, z = (n : Int) ∧ n < 18446744073709551616 := by
  have := bounds_u64 w
  exact ⟨z.toNat, by omega, by omega⟩
theorem mcP : Tryz.prog.cellsOf 61 = 2 := by kernel_rfl
theorem mbP : Tryz.prog.bytesOf 61 = 32 := by kernel_rfl
set_option maxRecDepth 100000 in
theorem one_pair (fuel : Nat) (cs : List Value) (x : DataW H × List MemPlace) (h : DataW.trod enc Tryz.prog W 0 (fun _ => true) held fuel 61 cs = some x) (hw : ∀ n ∈ x.1.weights Tryz.prog 61, n ≤ reachBytes) :
    ∃ p : Pr, cs = [.string p.1, .string p.2] ∧ p.1.size ≤ 140737488351232 ∧ p.2.size ≤ 140737488351232 := by
  obtain ⟨xs, n, _, rfl, hlen, hxl, hfs⟩ := DataW.trod_struct Tryz.underlying61 h
  rw [mcP] at hlen
  match cs, hlen with
  | [c0, c1], _ =>
    have hxl2 : xs.length = 2 := hxl
    match xs, hxl2 with
    | [x0, x1], _ =>
      obtain ⟨s0, e0, z0⟩ := one_text _ _ _ (hfs 0 _ rfl) (each_mem Tryz.underlying61 (j := 0) hw rfl rfl)
      obtain ⟨s1, e1, z1⟩ := one_text _ _ _ (hfs 1 _ rfl) (each_mem Tryz.underlying61 (j := 1) hw rfl rfl)
      have q0 : [c0] = [Value.string s0] := e0
      have q1 : [c1] = [Value.string s1] := e1
      injection q0 with q0 _
      injection q1 with q1 _
      subst q0 q1
      exact ⟨(s0, s1), rfl, z0, z1⟩
theorem weights_of {d : DataW H} {ts : List TypeId} {ds : List (DataW H)} (hsz : (DataW.weightsEach Tryz.prog ts ds).all (· ≤ reachBytes) = true) {t : TypeId} {j : Nat} (ht : ts[j]? = some t) (hd : ds[j]? = some d) : ∀ n ∈ d.weights Tryz.prog t, n ≤ reachBytes := fun n hn => by
  have := List.all_eq_true.1 hsz n (DataW.weights_mem_each (j := j) ht hd n hn)
  simpa using this
theorem open_ps {fuel : Nat} {a : Option Addr} {len cap : Nat} {x : DataW H × List MemPlace}
    (h : DataW.trod enc Tryz.prog W 0 (fun _ => true) held fuel 22 [.slice a len cap] = some x) (hw : ∀ n ∈ x.1.weights Tryz.prog 22, n ≤ reachBytes) :
    ∃ l : List Pr, len = l.length ∧ Sl PE W a cap l ∧ (∀ p ∈ l, p.1.size ≤ maxLen ∧ p.2.size ≤ maxLen) ∧ l.length ≤ 4398046511000 := by
  obtain ⟨l, h1, h2, h3, h4⟩ := open_list PE okP p0 _ mcP mbP (fun fuel cs x h hw => one_pair fuel cs x h hw) h hw
  have hr := reach_eq
  have hc : l.length ≤ cap := h2.cap
  have h5 : cap * 32 ≤ reachBytes := h4
  rw [hr] at h5
  refine ⟨l, h1.symm, h2, fun p hp => ?_, ?_⟩
  · have := h3 p hp
    unfold maxLen
    omega
  · clear h h2 h3 h4 hr hw
    omega
end
end Go.Proofs.YtghnhkhhpeoheaaGreat
