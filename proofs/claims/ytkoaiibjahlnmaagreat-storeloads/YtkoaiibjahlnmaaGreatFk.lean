import Derived.Test.YtkoaiibjahlnmaaGreatFq
/- What came in: versions, lasts. -/
namespace Go.Proofs.YtkoaiibjahlnmaaGreat
open Go.ChangeShapes Go.WideShapes Go.ChangeAt Go.RowKit Go.Deep
set_option linter.unusedVariables false
set_option linter.unusedSimpArgs false

theorem mcK : Tryz.prog.cellsOf 48 = 5 := by kernel_rfl
theorem mbK : Tryz.prog.bytesOf 48 = 72 := by kernel_rfl
theorem mcV : Tryz.prog.cellsOf 46 = 4 := by kernel_rfl
theorem mcLa : Tryz.prog.cellsOf 66 = 2 := by kernel_rfl
theorem mbLa : Tryz.prog.bytesOf 66 = 24 := by kernel_rfl
def OkKV (W : World) (x : KV) : Prop := Sl TE W x.o x.c x.keys ∧ x.keys.length ≤ 8796093021952 ∧ x.m.2 < 18446744073709551616 ∧ x.m.1.size ≤ 140737488351232 ∧ x.val.size ≤ 140737488351232 ∧ ∀ t ∈ x.keys, t.size ≤ 140737488351232
section
variable {H : Type} {enc : TypeId × Value → H} {W : World} {held : Bool}
set_option maxRecDepth 100000 in
theorem one_verK (fuel : Nat) (cs : List Value) (x : DataW H × List MemPlace) (h : DataW.trod enc Tryz.prog W 0 (fun _ => true) held fuel 46 cs = some x) (hw : ∀ n ∈ x.1.weights Tryz.prog 46, n ≤ reachBytes) :
    ∃ p : KV, cs = [.string p.m.1, .int .u64 ((p.m.2 : Nat) : Int), .string p.val, .slice p.o p.keys.length p.c] ∧ OkKV W p := by
  obtain ⟨xs, n, _, rfl, hlen, hxl, hfs⟩ := DataW.trod_struct Tryz.underlying46 h
  rw [mcV] at hlen
  match cs, hlen with
  | [c0, c1, c2, c3], _ =>
    have hxl2 : xs.length = 4 := hxl
    match xs, hxl2 with
    | [x0, x1, x2, x3], _ =>
      obtain ⟨s0, e0, z0⟩ := one_text _ _ _ (hfs 0 _ rfl) (each_mem Tryz.underlying46 (j := 0) hw rfl rfl)
      obtain ⟨i1, e1, _, w1⟩ := DataW.trod_int (k := .u64) Tryz.underlying28 (hfs 1 _ rfl)
      obtain ⟨s2, e2, z2⟩ := one_text _ _ _ (hfs 2 _ rfl) (each_mem Tryz.underlying46 (j := 2) hw rfl rfl)
      have t3 := hfs 3 _ rfl
      obtain ⟨a, len, cap, e3⟩ := is_slice (c := c3) Tryz.underlying44 t3
      subst e3
      obtain ⟨ss, hl, hsl, hsz, hcp⟩ := open_txs t3 (each_mem Tryz.underlying46 (j := 3) hw rfl rfl)
      have q0 : [c0] = [Value.string s0] := e0
      have q1 : [c1] = [Value.int .u64 i1] := e1
      have q2 : [c2] = [Value.string s2] := e2
      injection q0 with q0 _
      injection q1 with q1 _
      injection q2 with q2 _
      subst q0 q1 q2
      obtain ⟨m, rfl, hm⟩ := u64_nat w1
      rw [reach_eq] at hcp
      have := hsl.cap
      exact ⟨⟨(s0, m), s2, a, cap, ss, 0⟩, by simp [hl], hsl, by show ss.length ≤ _; omega, hm, z0, z2, hsz⟩
set_option maxRecDepth 100000 in
theorem one_kept (fuel : Nat) (cs : List Value) (x : DataW H × List MemPlace) (h : DataW.trod enc Tryz.prog W 0 (fun _ => true) held fuel 48 cs = some x) (hw : ∀ n ∈ x.1.weights Tryz.prog 48, n ≤ reachBytes) :
    ∃ p : KV, cs = KE.enc p ∧ OkKV W p := by
  obtain ⟨xs, n, _, rfl, hlen, hxl, hfs⟩ := DataW.trod_struct Tryz.underlying48 h
  rw [mcK] at hlen
  match cs, hlen with
  | [c0, c1, c2, c3, c4], _ =>
    have hxl2 : xs.length = 2 := hxl
    match xs, hxl2 with
    | [x0, x1], _ =>
      have t0 : DataW.trod enc Tryz.prog W 0 (fun _ => true) held n 46 [c0, c1, c2, c3] = some x0 := hfs 0 _ rfl
      obtain ⟨p, e0, hp⟩ := one_verK _ _ _ t0 (each_mem Tryz.underlying48 (j := 0) hw rfl rfl)
      obtain ⟨z1, e1, _, w1⟩ := DataW.trod_int (k := .i64) Tryz.underlying2 (hfs 1 _ rfl)
      have q1 : [c4] = [Value.int .i64 z1] := e1
      injection q1 with q1 _
      injection e0 with g0 e0
      injection e0 with g1 e0
      injection e0 with g2 e0
      injection e0 with g3 _
      subst q1 g0 g1 g2 g3
      exact ⟨{ p with stamp := z1 }, rfl, hp⟩
set_option maxRecDepth 100000 in
theorem one_last (fuel : Nat) (cs : List Value) (x : DataW H × List MemPlace) (h : DataW.trod enc Tryz.prog W 0 (fun _ => true) held fuel 66 cs = some x) (hw : ∀ n ∈ x.1.weights Tryz.prog 66, n ≤ reachBytes) :
    ∃ p : Mk, cs = LE.enc p ∧ p.1.size ≤ 140737488351232 ∧ p.2 < 18446744073709551616 := by
  obtain ⟨xs, n, _, rfl, hlen, hxl, hfs⟩ := DataW.trod_struct Tryz.underlying66 h
  rw [mcLa] at hlen
  match cs, hlen with
  | [c0, c1], _ =>
    have hxl2 : xs.length = 2 := hxl
    match xs, hxl2 with
    | [x0, x1], _ =>
      obtain ⟨s0, e0, z0⟩ := one_text _ _ _ (hfs 0 _ rfl) (each_mem Tryz.underlying66 (j := 0) hw rfl rfl)
      obtain ⟨i1, e1, _, w1⟩ := DataW.trod_int (k := .u64) Tryz.underlying28 (hfs 1 _ rfl)
      have q0 : [c0] = [Value.string s0] := e0
      have q1 : [c1] = [Value.int .u64 i1] := e1
      injection q0 with q0 _
      injection q1 with q1 _
      subst q0 q1
      obtain ⟨m, rfl, hm⟩ := u64_nat w1
      exact ⟨(s0, m), rfl, z0, hm⟩
end
end Go.Proofs.YtkoaiibjahlnmaaGreat
