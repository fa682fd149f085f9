/- What came in: lists of texts, of pairs. -/
import Derived.Test.YtlpfoieoopjmgaaKin
import Derived.ProofKit
import Derived.OpenShut
import Derived.JoinedCond
import Derived.SizedLaws
import Derived.Deep.Strs
import Derived.Deep.DeepHandedRow
import Derived.Lib.LaidTab
namespace Go.Proofs.Ytlpfoieoopjmgaa
open Go.ChangeShapes Go.WideShapes Go.ChangeAt Go.RowKit Go.Deep
set_option linter.unusedVariables false
set_option linter.unusedSimpArgs false

theorem own : ownKnob Try.prog.godebug = none := by kernel_rfl
theorem laidOut : laidOutB Try.prog = true := by kernel_rfl
theorem cells9 : Try.prog.cellsOf 9 = 1 := by kernel_rfl
theorem cells38 : Try.prog.cellsOf 38 = 2 := by kernel_rfl
theorem bytes9 : Try.prog.bytesOf 9 = 16 := by kernel_rfl
theorem bytes38 : Try.prog.bytesOf 38 = 32 := by kernel_rfl

theorem row_of_at {W : World} {b off : Nat} {ss : List Tx} (h : ∀ j, j < ss.length → W.cell? ⟨b, off + j, none⟩ = some (.string (ss.getD j e0))) : Row TE W (some ⟨b, off, none⟩) ss := by
  refine .inr ⟨b, off, rfl, fun j u hj => ?_⟩
  rw [show TE.cells ss = ss.map Value.string from cells_map rfl _ (fun _ => rfl) ss] at hj
  have hjl : j < ss.length := by
    have := (List.getElem?_eq_some_iff.mp hj).1
    simpa using this
  rw [h j hjl]
  simp [hjl] at hj
  simp [hjl, hj]

theorem open_texts {H : Type} {enc : TypeId × Value → H} {W : World} {held : Bool} {fuel : Nat} {a : Option Addr} {len cap : Nat} {x : DataW H × List MemPlace}
    (hf : DataW.trod enc Try.prog W 0 (fun _ => true) held fuel 22 [.slice a len cap] = some x) :
    ∃ ss : List Tx, ss.length = len ∧ Sl TE W a cap ss ∧ (∀ s ∈ ss, s.size ≤ maxLen) ∧ ((x.1 = .nil ∧ ss = []) ∨ ∃ elems rest, x.1 = .slice elems rest ∧ elems = ss.map (fun s => .lit (.string s.data.toList)) ∧ elems.length + rest.length = cap) := by
  rcases open_strs Try.underlying22 Try.underlying9 cells9 hf with ⟨hcs, hx⟩ | ⟨y, l, c, m, Sx, hcs, _, hl, hm, hmm, hx, hcell⟩
  · simp at hcs
    obtain ⟨rfl, rfl, rfl⟩ := hcs
    exact ⟨[], rfl, ⟨.inl rfl, by simp, fun _ => rfl⟩, fun s hs => (by cases hs), .inl ⟨by rw [hx], rfl⟩⟩
  · simp at hcs
    obtain ⟨rfl, rfl, rfl⟩ := hcs
    have hmm' : m = cap := by simpa using hmm
    subst hmm'
    refine ⟨(List.range len).map Sx, by simp, ⟨?_, by simpa using hl, fun h => (by cases h)⟩, ?_, .inr ⟨_, _, by rw [hx], by simp, by simp; omega⟩⟩
    · by_cases h0 : len = 0
      · left; subst h0; simp
      · obtain ⟨b, off, spot⟩ := y
        have hc := (hcell 0 (by omega)).1
        have hspot : spot = none := by simpa [Addr.add] using World.cell?_spot hc
        subst hspot
        refine row_of_at fun j hj => ?_
        simp at hj
        have h1 := (hcell j (by omega)).1
        rw [addr_add] at h1
        rw [h1]
        simp [hj]
    · intro s hs
      simp at hs
      obtain ⟨i, hi, rfl⟩ := hs
      exact (hcell i (by omega)).2

theorem cells?_get {w : World} {base : Nat} {a : Addr} {n : Nat} {cs : List Value} (h : w.cells? base a n = some cs) : base ≤ a.block ∧ cs.length = n ∧ ∀ i, i < n → w.cell? (a.add i) = cs[i]? := by
  unfold World.cells? at h
  split at h
  · rename_i hb
    have hl := mapM_some_length h
    refine ⟨hb, by simpa using hl, fun i hi => ?_⟩
    have := mapM_some_get h i i (by simp [hi])
    simpa using this
  · cases h

theorem open_pair {H : Type} {enc : TypeId × Value → H} {W : World} {held : Bool} {fuel : Nat} {cs : List Value} {x : DataW H × List MemPlace}
    (hf : DataW.trod enc Try.prog W 0 (fun _ => true) held fuel 38 cs = some x) :
    ∃ p : Pr, cs = [.string p.1, .string p.2] ∧ p.1.size ≤ maxLen ∧ p.2.size ≤ maxLen := by
  obtain ⟨xs, n, _, rfl, hlen, hxl, hfs⟩ := DataW.trod_struct Try.underlying38 hf
  rw [cells38] at hlen
  match cs, hlen with
  | [c0, c1], _ =>
    have t0 := hfs 0 _ rfl
    have t1 := hfs 1 _ rfl
    have hxl2 : xs.length = 2 := hxl
    match xs, hxl2 with
    | [x0, x1], _ =>
      obtain ⟨s0, e0, rfl, w0⟩ := DataW.trod_string Try.underlying9 t0
      obtain ⟨s1, e1, rfl, w1⟩ := DataW.trod_string Try.underlying9 t1
      have q0 : [c0] = [Value.string s0] := e0
      have q1 : [c1] = [Value.string s1] := e1
      injection q0 with q0 _
      injection q1 with q1 _
      subst q0 q1
      exact ⟨(s0, s1), rfl, w0, w1⟩

theorem row_of_atP {W : World} {b off : Nat} {ss : List Pr} (h : ∀ j, j < ss.length → W.cell? ⟨b, off + j * 2, none⟩ = some (.string (ss.getD j p0).1) ∧ W.cell? ⟨b, off + j * 2 + 1, none⟩ = some (.string (ss.getD j p0).2)) : Row PE W (some ⟨b, off, none⟩) ss := by
  refine .inr ⟨b, off, rfl, fun j u hj => ?_⟩
  have hjl : j < ss.length * 2 := by
    have := (List.getElem?_eq_some_iff.mp hj).1
    rw [cells_length okP] at this
    exact this
  have hd : j / 2 < ss.length := by omega
  have hk2 : PE.k = 2 := rfl
  have hc := cells_at okP p0 ss (j / 2) (j % 2) hd (by rw [hk2]; omega)
  rw [hk2, show j / 2 * 2 + j % 2 = j by omega, hj] at hc
  have hh := h (j / 2) hd
  have h5 : j % 2 = 0 ∨ j % 2 = 1 := by omega
  rcases h5 with h5 | h5
  · rw [h5] at hc
    rw [show off + j = off + j / 2 * 2 by omega, hh.1, hc]; rfl
  · rw [h5] at hc
    rw [show off + j = off + j / 2 * 2 + 1 by omega, hh.2, hc]; rfl

def FitsP (ps : List Pr) : Prop := ∀ p ∈ ps, p.1.size ≤ maxLen ∧ p.2.size ≤ maxLen
theorem open_pairs {H : Type} {enc : TypeId × Value → H} {W : World} {held : Bool} {fuel : Nat} {a : Option Addr} {len cap : Nat} {x : DataW H × List MemPlace}
    (hf : DataW.trod enc Try.prog W 0 (fun _ => true) held fuel 36 [.slice a len cap] = some x) :
    ∃ ps : List Pr, ps.length = len ∧ Sl PE W a cap ps ∧ FitsP ps ∧ ((x.1 = .nil ∧ ps = []) ∨ ∃ elems rest, x.1 = .slice elems rest ∧ elems.length + rest.length = cap) := by
  rcases open_slice Try.underlying36 hf with ⟨hcs, hx⟩ | ⟨y, l, c, m, n, D, Pl, hcs, _, hl, hm, hmm, hx, hel⟩
  · simp at hcs
    obtain ⟨rfl, rfl, rfl⟩ := hcs
    exact ⟨[], rfl, ⟨.inl rfl, by simp, fun _ => rfl⟩, fun p hp => (by cases hp), .inl ⟨by rw [hx], rfl⟩⟩
  · simp at hcs
    obtain ⟨rfl, rfl, rfl⟩ := hcs
    have hmm' : m = cap := by simpa using hmm
    subst hmm'
    have each : ∀ i, i < len → ∃ p : Pr, (W.cells? 0 (y.add (i * 2)) 2 = some [.string p.1, .string p.2]) ∧ p.1.size ≤ maxLen ∧ p.2.size ≤ maxLen := by
      intro i hi
      obtain ⟨cs', hc, ht⟩ := hel i (by omega)
      rw [cells38] at hc
      obtain ⟨p, rfl, h2, h3⟩ := open_pair ht
      exact ⟨p, hc, h2, h3⟩
    have inh : Inhabited Pr := ⟨p0⟩
    obtain ⟨F, hF⟩ := choose_lt each
    have hget : ∀ j, j < len → ((List.range len).map F).getD j p0 = F j := fun j hj => by simp [List.getD_eq_getElem?_getD, hj]
    refine ⟨(List.range len).map F, by simp, ⟨?_, by simpa using hl, fun h => (by cases h)⟩, ?_⟩
    · by_cases h0 : len = 0
      · left; subst h0; simp
      · obtain ⟨b, off, spot⟩ := y
        have hc := (hF 0 (by omega)).1
        obtain ⟨_, hl2, hce⟩ := cells?_get hc
        have hc0 := hce 0 (by omega)
        have hspot : spot = none := by
          simpa [Addr.add] using World.cell?_spot hc0
        subst hspot
        refine row_of_atP fun j hj => ?_
        simp at hj
        obtain ⟨_, _, hce⟩ := cells?_get (hF j hj).1
        have g0 := hce 0 (by omega)
        have g1 := hce 1 (by omega)
        rw [addr_add, addr_add] at g0 g1
        rw [hget j hj]
        exact ⟨by simpa using g0, by simpa using g1⟩
    · refine ⟨?_, .inr ⟨_, _, by rw [hx], by simp; omega⟩⟩
      intro p hp
      simp only [List.mem_map, List.mem_range] at hp
      obtain ⟨i, hi, rfl⟩ := hp
      exact (hF i hi).2
end Go.Proofs.Ytlpfoieoopjmgaa
