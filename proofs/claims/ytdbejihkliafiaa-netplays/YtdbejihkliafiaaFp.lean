/- NetPlays: what came in. -/
import Derived.Test.YtdbejihkliafiaaFm
namespace Go.Proofs.Ytdbejihkliafiaa
open Go.ChangeShapes Go.WideShapes Go.ChangeAt Go.RowKit Go.Sort
set_option linter.unusedVariables false
set_option linter.unusedSimpArgs false

section
variable {H : Type} {enc : TypeId × Value → H} {W : World} {held : Bool}
def I64 (z : Int) : Prop := -9223372036854775808 ≤ z ∧ z ≤ 9223372036854775807
theorem one_zb (fuel : Nat) (cs : List Value) (x : DataW H × List MemPlace) (h : DataW.trod enc Try.prog W 0 (fun _ => true) held fuel 3 cs = some x) : ∃ z : Int, cs = [.int .i64 z] ∧ I64 z := by
  obtain ⟨z, e, _, w⟩ := DataW.trod_int (k := .i64) Try.underlying3 h
  exact ⟨z, e, bounds_i64 w⟩
theorem open_bytesT {fuel : Nat} {a : Option Addr} {len cap : Nat} {x : DataW H × List MemPlace}
    (hf : DataW.trod enc Try.prog W 0 (fun _ => true) held fuel 22 [.slice a len cap] = some x) (hw : ∀ n ∈ x.1.weights Try.prog 22, n ≤ reachBytes) :
    ∃ bs : List UInt8, len = bs.length ∧ Sl BE W a cap bs ∧ bs.length ≤ 140737488355320 := by
  obtain ⟨l, h1, h2, h3, h4⟩ := open_list BE okB 0 (fun _ => True) mc5 mb5 (fun fuel cs x h hw => by
    obtain ⟨c, e⟩ := one_byte fuel cs x h
    exact ⟨c, e, trivial⟩) hf hw
  have hc : l.length ≤ cap := h2.cap
  have h5 : cap * 1 ≤ reachBytes := h4
  rw [reach_eq] at h5
  exact ⟨l, h1.symm, h2, by omega⟩
def FitP (W : World) (r : RO) : Prop := (∃ bs : List UInt8, r.n = bs.length ∧ Sl BE W r.o r.c bs ∧ bs.length ≤ 140737488355320) ∧ I64 r.a ∧ I64 r.b
set_option maxRecDepth 100000 in
theorem one_opP (fuel : Nat) (cs : List Value) (x : DataW H × List MemPlace) (h : DataW.trod enc Try.prog W 0 (fun _ => true) held fuel 42 cs = some x) (hw : ∀ n ∈ x.1.weights Try.prog 42, n ≤ reachBytes) : ∃ p : RO, cs = OE.enc p ∧ FitP W p := by
  obtain ⟨xs, n, _, rfl, hlen, hxl, hfs⟩ := DataW.trod_struct Try.underlying42 h
  rw [mcO] at hlen
  match cs, hlen with
  | [c0, c1, c2, c3, c4], _ =>
    have hxl2 : xs.length = 5 := hxl
    match xs, hxl2 with
    | [x0, x1, x2, x3, x4], _ =>
      obtain ⟨a0, q0, b0⟩ := one_zb _ _ _ (hfs 0 _ rfl)
      obtain ⟨a1, q1, b1⟩ := one_zb _ _ _ (hfs 1 _ rfl)
      obtain ⟨a2, q2, b2⟩ := one_zb _ _ _ (hfs 2 _ rfl)
      obtain ⟨a3, q3, b3⟩ := one_zb _ _ _ (hfs 3 _ rfl)
      obtain ⟨v4, n4, d4, q4⟩ := is_slice Try.underlying22 (c := c4) (hfs 4 _ rfl)
      subst q4
      obtain ⟨bs, e1, e2, e3⟩ := open_bytesT (hfs 4 _ rfl) (each_mem Try.underlying42 (j := 4) hw rfl rfl)
      have p0 : [c0] = [Value.int .i64 a0] := q0
      have p1 : [c1] = [Value.int .i64 a1] := q1
      have p2 : [c2] = [Value.int .i64 a2] := q2
      have p3 : [c3] = [Value.int .i64 a3] := q3
      injection p0 with p0 _
      injection p1 with p1 _
      injection p2 with p2 _
      injection p3 with p3 _
      subst p0 p1 p2 p3
      exact ⟨⟨a0, a1, a2, a3, v4, n4, d4⟩, rfl, ⟨bs, e1, e2, e3⟩, b2, b3⟩
theorem open_opsP {fuel : Nat} {a : Option Addr} {len cap : Nat} {x : DataW H × List MemPlace}
    (hf : DataW.trod enc Try.prog W 0 (fun _ => true) held fuel 39 [.slice a len cap] = some x) (hw : ∀ n ∈ x.1.weights Try.prog 39, n ≤ reachBytes) :
    ∃ l : List RO, len = l.length ∧ Sl OE W a cap l ∧ (∀ r ∈ l, FitP W r) ∧ l.length ≤ 2513169434916 := by
  obtain ⟨l, h1, h2, h3, h4⟩ := open_list OE okO ro0 (FitP W) mcO mbO (fun fuel cs x h hw => one_opP fuel cs x h hw) hf hw
  have hc : l.length ≤ cap := h2.cap
  have h5 : cap * 56 ≤ reachBytes := h4
  rw [reach_eq] at h5
  exact ⟨l, h1.symm, h2, h3, by omega⟩
theorem mcA4 : Try.prog.cellsOf 49 = 4 := by kernel_rfl
set_option maxRecDepth 100000 in
theorem open_arr4 {base : Nat} {v : Value} {d : DataW H} {p : List MemPlace} (hv : Value.okWide Try.prog W .any base 49 v) (h : DataW.Trod enc Try.prog W 0 (fun _ => true) held 49 v d p) :
    ∃ z0 z1 z2 z3 : Int, v = .agg #[.int .i64 z0, .int .i64 z1, .int .i64 z2, .int .i64 z3] ∧ I64 z0 ∧ I64 z1 ∧ I64 z2 ∧ I64 z3 := by
  simp only [Value.okWide, Try.underlying49] at hv
  obtain ⟨⟨cs⟩, rfl, hsz, -⟩ := hv
  rw [mcA4] at hsz
  obtain ⟨fuel, hf⟩ := h
  obtain ⟨xs, n, _, hx, hlen, hxl, hff⟩ := DataW.trod_array Try.underlying49 hf
  have hsz' : cs.length = 4 := hsz
  match cs, hsz' with
  | [c0, c1, c2, c3], _ =>
    match xs, hxl with
    | [x0, x1, x2, x3], _ =>
      have g0 := hff 0 (by decide)
      have g1 := hff 1 (by decide)
      have g2 := hff 2 (by decide)
      have g3 := hff 3 (by decide)
      rw [mc3] at g0 g1 g2 g3
      obtain ⟨a0, q0, b0⟩ := one_zb _ _ x0 g0
      obtain ⟨a1, q1, b1⟩ := one_zb _ _ x1 g1
      obtain ⟨a2, q2, b2⟩ := one_zb _ _ x2 g2
      obtain ⟨a3, q3, b3⟩ := one_zb _ _ x3 g3
      have p0 : [c0] = [Value.int .i64 a0] := q0
      have p1 : [c1] = [Value.int .i64 a1] := q1
      have p2 : [c2] = [Value.int .i64 a2] := q2
      have p3 : [c3] = [Value.int .i64 a3] := q3
      injection p0 with p0 _
      injection p1 with p1 _
      injection p2 with p2 _
      injection p3 with p3 _
      subst p0 p1 p2 p3
      exact ⟨a0, a1, a2, a3, rfl, b0, b1, b2, b3⟩
end
end Go.Proofs.Ytdbejihkliafiaa
