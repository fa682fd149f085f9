/- What came in: a list of calls. -/
import Derived.Test.YtghnhkhhpeoheaaGreatFm
import Derived.Test.YtghnhkhhpeoheaaGreatQ3
namespace Go.Proofs.YtghnhkhhpeoheaaGreat
open Go.ChangeShapes Go.WideShapes Go.ChangeAt Go.RowKit Go.Deep
set_option linter.unusedVariables false
set_option linter.unusedSimpArgs false

section
variable {H : Type} {enc : TypeId × Value → H} {W : World} {held : Bool}
theorem one_z (fuel : Nat) (cs : List Value) (x : DataW H × List MemPlace) (h : DataW.trod enc Tryz.prog W 0 (fun _ => true) held fuel 3 cs = some x) : ∃ z : Int, cs = [.int .i64 z] := by
  obtain ⟨z, e, _, w⟩ := DataW.trod_int (k := .i64) Tryz.underlying3 h
  exact ⟨z, e⟩
theorem one_u (t : TypeId) (ht : Tryz.prog.underlying t = some (.int .u64)) (fuel : Nat) (cs : List Value) (x : DataW H × List MemPlace) (h : DataW.trod enc Tryz.prog W 0 (fun _ => true) held fuel t cs = some x) : ∃ n : Nat, cs = [.int .u64 (n : Nat)] ∧ n < 18446744073709551616 := by
  obtain ⟨z, e, _, w⟩ := DataW.trod_int (k := .u64) ht h
  obtain ⟨n, rfl, hn⟩ := u64_nat w
  exact ⟨n, e, hn⟩
theorem mcM : Tryz.prog.cellsOf 45 = 8 := by kernel_rfl
theorem mcO : Tryz.prog.cellsOf 47 = 12 := by kernel_rfl
theorem mbO : Tryz.prog.bytesOf 47 = 160 := by kernel_rfl
set_option maxRecDepth 100000 in
theorem one_msg (fuel : Nat) (cs : List Value) (x : DataW H × List MemPlace) (h : DataW.trod enc Tryz.prog W 0 (fun _ => true) held fuel 45 cs = some x) :
    ∃ (k cl : Int) (req id : Nat) (v4 : Option Addr) (n4 c4 : Nat) (v5 : Option Addr) (n5 c5 : Nat) (v6 : Option Addr) (n6 c6 : Nat) (v7 : Option Addr) (n7 c7 : Nat), cs = [.int .i64 k, .int .i64 cl, .int .u64 (req : Nat), .int .u64 (id : Nat), .slice v4 n4 c4, .slice v5 n5 c5, .slice v6 n6 c6, .slice v7 n7 c7] ∧ req < 18446744073709551616 ∧ id < 18446744073709551616 := by
  obtain ⟨xs, n, _, rfl, hlen, hxl, hfs⟩ := DataW.trod_struct Tryz.underlying45 h
  rw [mcM] at hlen
  match cs, hlen with
  | [c0, c1, c2, c3, c4, c5, c6, c7], _ =>
    have hxl2 : xs.length = 8 := hxl
    match xs, hxl2 with
    | [x0, x1, x2, x3, x4, x5, x6, x7], _ =>
      obtain ⟨a0, q0⟩ := one_z _ _ _ (hfs 0 _ rfl)
      obtain ⟨a1, q1⟩ := one_z _ _ _ (hfs 1 _ rfl)
      obtain ⟨a2, q2, b2⟩ := one_u 23 Tryz.underlying23 _ _ _ (hfs 2 _ rfl)
      obtain ⟨a3, q3, b3⟩ := one_u 35 Tryz.underlying35 _ _ _ (hfs 3 _ rfl)
      obtain ⟨v4, n4, d4, q4⟩ := is_slice Tryz.underlying22 (c := c4) (hfs 4 _ rfl)
      obtain ⟨v5, n5, d5, q5⟩ := is_slice Tryz.underlying41 (c := c5) (hfs 5 _ rfl)
      obtain ⟨v6, n6, d6, q6⟩ := is_slice Tryz.underlying42 (c := c6) (hfs 6 _ rfl)
      obtain ⟨v7, n7, d7, q7⟩ := is_slice Tryz.underlying43 (c := c7) (hfs 7 _ rfl)
      have p0 : [c0] = [Value.int .i64 a0] := q0
      have p1 : [c1] = [Value.int .i64 a1] := q1
      have p2 : [c2] = [Value.int .u64 (a2 : Nat)] := q2
      have p3 : [c3] = [Value.int .u64 (a3 : Nat)] := q3
      injection p0 with p0 _
      injection p1 with p1 _
      injection p2 with p2 _
      injection p3 with p3 _
      subst p0 p1 p2 p3 q4 q5 q6 q7
      exact ⟨a0, a1, a2, a3, v4, n4, d4, v5, n5, d5, v6, n6, d6, v7, n7, d7, rfl, b2, b3⟩
set_option maxRecDepth 100000 in
theorem one_op (fuel : Nat) (cs : List Value) (x : DataW H × List MemPlace) (h : DataW.trod enc Tryz.prog W 0 (fun _ => true) held fuel 47 cs = some x) : ∃ p : ROp, cs = OE.enc p ∧ FitO p := by
  obtain ⟨xs, n, _, rfl, hlen, hxl, hfs⟩ := DataW.trod_struct Tryz.underlying47 h
  rw [mcO] at hlen
  match cs, hlen with
  | [c0, c1, c2, c3, c4, c5, c6, c7, c8, c9, c10, c11], _ =>
    have hxl2 : xs.length = 5 := hxl
    match xs, hxl2 with
    | [x0, x1, x2, x3, x4], _ =>
      obtain ⟨a0, q0⟩ := one_z _ _ _ (hfs 0 _ rfl)
      obtain ⟨a1, q1⟩ := one_z _ _ _ (hfs 1 _ rfl)
      obtain ⟨a2, q2⟩ := one_z _ _ _ (hfs 2 _ rfl)
      obtain ⟨a3, q3, _⟩ := DataW.trod_bool Tryz.underlying4 (hfs 3 _ rfl)
      obtain ⟨k, cl, req, id, v4, n4, d4, v5, n5, d5, v6, n6, d6, v7, n7, d7, q4, b1, b2⟩ := one_msg _ _ _ (hfs 4 _ rfl)
      have p0 : [c0] = [Value.int .i64 a0] := q0
      have p1 : [c1] = [Value.int .i64 a1] := q1
      have p2 : [c2] = [Value.int .i64 a2] := q2
      have p3 : [c3] = [Value.bool a3] := q3
      have p4 : [c4, c5, c6, c7, c8, c9, c10, c11] = _ := q4
      injection p0 with p0 _
      injection p1 with p1 _
      injection p2 with p2 _
      injection p3 with p3 _
      simp only [List.cons.injEq, and_true] at p4
      obtain ⟨g4, g5, g6, g7, g8, g9, g10, g11⟩ := p4
      subst p0 p1 p2 p3 g4 g5 g6 g7 g8 g9 g10 g11
      exact ⟨⟨a0, a1, a2, a3, k, cl, req, id, v4, n4, d4, v5, n5, d5, v6, n6, d6, v7, n7, d7⟩, rfl, b1, b2⟩
theorem open_ops {fuel : Nat} {a : Option Addr} {len cap : Nat} {x : DataW H × List MemPlace}
    (hf : DataW.trod enc Tryz.prog W 0 (fun _ => true) held fuel 24 [.slice a len cap] = some x) (hw : ∀ n ∈ x.1.weights Tryz.prog 24, n ≤ reachBytes) :
    ∃ l : List ROp, len = l.length ∧ Sl OE W a cap l ∧ (∀ r ∈ l, FitO r) ∧ l.length ≤ 17592186044416 := by
  obtain ⟨l, h1, h2, h3, h4⟩ := open_list OE okO rop0 FitO mcO mbO (fun fuel cs x h hw => one_op fuel cs x h) hf hw
  have hc : l.length ≤ cap := h2.cap
  have h5 : cap * 160 ≤ reachBytes := h4
  rw [reach_eq] at h5
  exact ⟨l, h1.symm, h2, h3, by omega⟩
end
end Go.Proofs.YtghnhkhhpeoheaaGreat
