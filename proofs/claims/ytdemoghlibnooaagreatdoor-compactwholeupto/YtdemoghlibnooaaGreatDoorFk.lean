import Derived.Test.YtdemoghlibnooaaGreatDoorFz
import Derived.Test.YtdemoghlibnooaaGreatDoorZW
/- What came in: rounds, and their bulk. -/
namespace Go.Proofs.YtdemoghlibnooaaGreatDoor
open Go.ChangeShapes Go.WideShapes Go.ChangeAt Go.RowKit Go.Deep
set_option linter.unusedVariables false
set_option linter.unusedSimpArgs false

theorem list4k {α : Type} {l : List α} (h : l.length = 4) : ∃ a b c d, l = [a, b, c, d] := by
  match l, h with
  | [a, b, c, d], _ => exact ⟨a, b, c, d, rfl⟩
theorem list5k {α : Type} {l : List α} (h : l.length = 5) : ∃ a b c d e, l = [a, b, c, d, e] := by
  match l, h with
  | [a, b, c, d, e], _ => exact ⟨a, b, c, d, e, rfl⟩
theorem u8_nat {z : Int} (w : (Lit.int .u8 z).wf = true) : ∃ n : Nat, z = (n : Int) ∧ n < 256 := by
  have := bounds_u8 w
  exact ⟨z.toNat, by omega, by omega⟩
theorem mcO : Tryz.prog.cellsOf 50 = 5 := by kernel_rfl
theorem mbO : Tryz.prog.bytesOf 50 = 40 := by kernel_rfl
theorem mcR : Tryz.prog.cellsOf 41 = 4 := by kernel_rfl
theorem mbR : Tryz.prog.bytesOf 41 = 48 := by kernel_rfl
section
variable {H : Type} {enc : TypeId × Value → H} {W : World} {held : Bool}
theorem one_textB (fuel : Nat) (cs : List Value) (x : DataW H × List MemPlace) (h : DataW.trod enc Tryz.prog W 0 (fun _ => true) held fuel 9 cs = some x) :
    ∃ s : Tx, cs = [.string s] ∧ Rows.uptoBulk x.1 = s.size + 1 := by
  obtain ⟨s, rfl, rfl, _⟩ := DataW.trod_string Tryz.underlying9 h
  refine ⟨s, rfl, ?_⟩
  simp only [Rows.uptoBulk]
  rw [str_len]
def OkD (v : OV) (d : DataW H) : Prop := OVok v ∧ wtO v ≤ Rows.uptoBulk d
set_option maxRecDepth 100000 in
theorem one_op (fuel : Nat) (cs : List Value) (x : DataW H × List MemPlace) (h : DataW.trod enc Tryz.prog W 0 (fun _ => true) held fuel 50 cs = some x) (hw : ∀ n ∈ x.1.weights Tryz.prog 50, n ≤ reachBytes) :
    ∃ v : OV, cs = OE.enc v ∧ OkD v x.1 := by
  obtain ⟨xs, n, _, rfl, hlen, hxl, hff⟩ := DataW.trod_struct Tryz.underlying50 h
  rw [mcO] at hlen
  obtain ⟨c0, c1, c2, c3, c4, rfl⟩ := list5k hlen
  obtain ⟨y0, y1, y2, y3, y4, rfl⟩ := list5k hxl
  have f0 := hff 0 _ rfl
  have f1 := hff 1 _ rfl
  have f2 := hff 2 _ rfl
  have f3 := hff 3 _ rfl
  obtain ⟨kd, e0, _, w0⟩ := DataW.trod_int (k := .i64) Tryz.underlying3 f0
  obtain ⟨i1, e1, _, w1⟩ := DataW.trod_int (k := .u64) Tryz.underlying42 f1
  obtain ⟨i2, e2, _, w2⟩ := DataW.trod_int (k := .u8) Tryz.underlying5 f2
  obtain ⟨i3, e3, _, w3⟩ := DataW.trod_int (k := .u8) Tryz.underlying5 f3
  obtain ⟨y, e4, z4⟩ := one_textB _ _ _ (hff 4 _ rfl)
  have q0 : [c0] = [Value.int .i64 kd] := e0
  have q1 : [c1] = [Value.int .u64 i1] := e1
  have q2 : [c2] = [Value.int .u8 i2] := e2
  have q3 : [c3] = [Value.int .u8 i3] := e3
  have q4 : [c4] = [Value.string y] := e4
  injection q0 with q0 _
  injection q1 with q1 _
  injection q2 with q2 _
  injection q3 with q3 _
  injection q4 with q4 _
  subst q0 q1 q2 q3 q4
  obtain ⟨i, rfl, hi⟩ := u64_nat w1
  obtain ⟨a, rfl, ha⟩ := u8_nat w2
  obtain ⟨b, rfl, hb⟩ := u8_nat w3
  refine ⟨⟨kd, i, a, b, y⟩, rfl, ⟨hi, ha, hb⟩, ?_⟩
  have b0 := bulk_one y0.1
  have b1 := bulk_one y1.1
  have b2 := bulk_one y2.1
  have b3 := bulk_one y3.1
  have z4 : Rows.uptoBulk y4.1 = y.size + 1 := z4
  simp only [Rows.uptoBulk, Rows.uptoBulkAll, List.map_cons, List.map_nil, wtO]
  omega
def OkRd (W : World) (v : RV) (d : DataW H) : Prop := (v.n = v.ops.length ∧ Sl OE W v.o v.c v.ops ∧ (∀ x ∈ v.ops, OVok x) ∧ i64 v.arm ∧ i64 v.keep) ∧ wtR v ≤ Rows.uptoBulk d
set_option maxRecDepth 100000 in
theorem one_round (fuel : Nat) (cs : List Value) (x : DataW H × List MemPlace) (h : DataW.trod enc Tryz.prog W 0 (fun _ => true) held fuel 41 cs = some x) (hw : ∀ n ∈ x.1.weights Tryz.prog 41, n ≤ reachBytes) :
    ∃ v : RV, cs = RE.enc v ∧ OkRd W v x.1 := by
  obtain ⟨xs, n, _, rfl, hlen, hxl, hff⟩ := DataW.trod_struct Tryz.underlying41 h
  rw [mcR] at hlen
  obtain ⟨c0, c1, c2, c3, rfl⟩ := list4k hlen
  obtain ⟨y0, y1, y2, y3, rfl⟩ := list4k hxl
  have f0 := hff 0 _ rfl
  have f1 := hff 1 _ rfl
  have f2 := hff 2 _ rfl
  have f3 := hff 3 _ rfl
  obtain ⟨ap, np, cp, e0⟩ := is_slice (c := c0) Tryz.underlying39 f0
  subst e0
  obtain ⟨ar, e1, _, w1⟩ := DataW.trod_int (k := .i64) Tryz.underlying3 f1
  obtain ⟨kp, e2, _, w2⟩ := DataW.trod_int (k := .i64) Tryz.underlying3 f2
  obtain ⟨fu, e3, _⟩ := DataW.trod_bool Tryz.underlying4 f3
  obtain ⟨ops, lo, so, go, _, _, bo⟩ := open_listB OE okO ov0 (fun v d => OkD v d) wtO (fun v d h => h.2) mcO mbO (fun fuel cs x h hw => one_op fuel cs x h hw) f0 (each_mem Tryz.underlying41 (j := 0) hw rfl rfl)
  have q1 : [c1] = [Value.int .i64 ar] := e1
  have q2 : [c2] = [Value.int .i64 kp] := e2
  have q3 : [c3] = [Value.bool fu] := e3
  injection q1 with q1 _
  injection q2 with q2 _
  injection q3 with q3 _
  subst q1 q2 q3
  have b1 := bounds_i64 w1
  have b2 := bounds_i64 w2
  refine ⟨⟨ap, np, cp, ar, kp, fu, ops⟩, rfl, ⟨lo.symm, so, fun x hx => by obtain ⟨d, hd⟩ := go x hx; exact hd.1, ⟨b1.1, b1.2⟩, ⟨b2.1, b2.2⟩⟩, ?_⟩
  have bo' : (ops.map wtO).sum ≤ Rows.uptoBulk y0.1 := bo
  simp only [Rows.uptoBulk, Rows.uptoBulkAll, List.map_cons, List.map_nil, wtR]
  omega
end
theorem sum_memR : ∀ (l : List RV) (v : RV), v ∈ l → wtR v ≤ (l.map wtR).sum
  | [], v, h => by cases h
  | o :: l, v, h => by
    simp only [List.map_cons, List.sum_cons]
    rcases List.mem_cons.1 h with rfl | h
    · omega
    · have := sum_memR l v h; omega
/-- rounds that came in -/
theorem open_rounds {H : Type} {enc : TypeId × Value → H} {W : World} {held : Bool} {fuel : Nat} {a : Option Addr} {len cap : Nat} {x : DataW H × List MemPlace}
    (hf : DataW.trod enc Tryz.prog W 0 (fun _ => true) held fuel 35 [.slice a len cap] = some x) (hw : ∀ n ∈ x.1.weights Tryz.prog 35, n ≤ reachBytes) (hB : Rows.uptoBulk x.1 ≤ 1048576) :
    ∃ l : List RV, len = l.length ∧ Sl RE W a cap l ∧ (∀ v ∈ l, RVok W v) ∧ (l.map wtR).sum ≤ 1048576 ∧ (len : Int) ≤ 1048576 := by
  obtain ⟨l, hl, hs, hok, _, hb, hsum⟩ := open_listB RE okR rv0 (fun v d => OkRd W v d) wtR (fun v d h => h.2) mcR mbR (fun fuel cs x h hw => one_round fuel cs x h hw) hf hw
  have hs2 : (l.map wtR).sum ≤ 1048576 := Nat.le_trans hsum hB
  refine ⟨l, hl.symm, hs, fun v hv => ?_, hs2, by have : len ≤ Rows.uptoBulk x.1 := hb; omega⟩
  obtain ⟨d, ⟨h1, h2, h3, h4, h5⟩, _⟩ := hok v hv
  exact ⟨h1, h2, h3, h4, h5, Nat.le_trans (sum_memR l v hv) hs2⟩
end Go.Proofs.YtdemoghlibnooaaGreatDoor
