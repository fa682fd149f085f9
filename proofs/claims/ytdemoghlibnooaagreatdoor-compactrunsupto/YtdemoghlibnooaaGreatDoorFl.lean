import Derived.Test.YtdemoghlibnooaaGreatDoorFz
import Derived.Test.YtdemoghlibnooaaGreatDoorZX
namespace Go.Proofs.YtdemoghlibnooaaGreatDoor
open Go.ChangeShapes Go.WideShapes Go.ChangeAt Go.RowKit Go.Deep
set_option linter.unusedVariables false
set_option linter.unusedSimpArgs false
theorem list3l {α : Type} {l : List α} (h : l.length = 3) : ∃ a b c, l = [a, b, c] := by
  match l, h with
  | [a, b, c], _ => exact ⟨a, b, c, rfl⟩
theorem list5k {α : Type} {l : List α} (h : l.length = 5) : ∃ a b c d e, l = [a, b, c, d, e] := by
  match l, h with
  | [a, b, c, d, e], _ => exact ⟨a, b, c, d, e, rfl⟩
theorem u8_nat {z : Int} (w : (Lit.int .u8 z).wf = true) : ∃ n : Nat, z = (n : Int) ∧ n < 256 := by
  have := bounds_u8 w
  exact ⟨z.toNat, by omega, by omega⟩
theorem mcO : Tryz.prog.cellsOf 50 = 5 := by kernel_rfl
theorem mbO : Tryz.prog.bytesOf 50 = 40 := by kernel_rfl
theorem mcF15 : Tryz.prog.cellsOf 66 = 3 := by kernel_rfl
theorem mbF15 : Tryz.prog.bytesOf 66 = 40 := by kernel_rfl
section
variable {H : Type} {enc : TypeId × Value → H} {W : World} {held : Bool}
theorem one_textB (fuel : Nat) (cs : List Value) (x : DataW H × List MemPlace) (h : DataW.trod enc Tryz.prog W 0 (fun _ => true) held fuel 9 cs = some x) :
    ∃ s : Tx, cs = [.string s] ∧ Rows.uptoBulk x.1 = s.size + 1 := by
  obtain ⟨s, rfl, rfl, _⟩ := DataW.trod_string Tryz.underlying9 h
  refine ⟨s, rfl, ?_⟩
  simp only [Rows.uptoBulk]
  rw [str_len]
def OkD (v : OV) (d : DataW H) : Prop := OVok v ∧ wtO v ≤ Rows.uptoBulk d
set_option maxRecDepth 100000 in
theorem one_op (fuel : Nat) (cs : List Value) (x : DataW H × List MemPlace) (h : DataW.trod enc Tryz.prog W 0 (fun _ => true) held fuel 50 cs = some x) (hw : ∀ n ∈ x.1.weights Tryz.prog 50, n ≤ reachBytes) :
    ∃ v : OV, cs = OE.enc v ∧ OkD v x.1 := by
  obtain ⟨xs, n, _, rfl, hlen, hxl, hff⟩ := DataW.trod_struct Tryz.underlying50 h
  rw [mcO] at hlen
  obtain ⟨c0, c1, c2, c3, c4, rfl⟩ := list5k hlen
  obtain ⟨y0, y1, y2, y3, y4, rfl⟩ := list5k hxl
  have f0 := hff 0 _ rfl
  have f1 := hff 1 _ rfl
  have f2 := hff 2 _ rfl
  have f3 := hff 3 _ rfl
  obtain ⟨kd, e0, _, w0⟩ := DataW.trod_int (k := .i64) Tryz.underlying3 f0
  obtain ⟨i1, e1, _, w1⟩ := DataW.trod_int (k := .u64) Tryz.underlying42 f1
  obtain ⟨i2, e2, _, w2⟩ := DataW.trod_int (k := .u8) Tryz.underlying5 f2
  obtain ⟨i3, e3, _, w3⟩ := DataW.trod_int (k := .u8) Tryz.underlying5 f3
  obtain ⟨y, e4, z4⟩ := one_textB _ _ _ (hff 4 _ rfl)
  have q0 : [c0] = [Value.int .i64 kd] := e0
  have q1 : [c1] = [Value.int .u64 i1] := e1
  have q2 : [c2] = [Value.int .u8 i2] := e2
  have q3 : [c3] = [Value.int .u8 i3] := e3
  have q4 : [c4] = [Value.string y] := e4
  injection q0 with q0 _
  injection q1 with q1 _
  injection q2 with q2 _
  injection q3 with q3 _
  injection q4 with q4 _
  subst q0 q1 q2 q3 q4
  obtain ⟨i, rfl, hi⟩ := u64_nat w1
  obtain ⟨a, rfl, ha⟩ := u8_nat w2
  obtain ⟨b, rfl, hb⟩ := u8_nat w3
  refine ⟨⟨kd, i, a, b, y⟩, rfl, ⟨hi, ha, hb⟩, ?_⟩
  have b0 := bulk_one y0.1
  have b1 := bulk_one y1.1
  have b2 := bulk_one y2.1
  have b3 := bulk_one y3.1
  have z4 : Rows.uptoBulk y4.1 = y.size + 1 := z4
  simp only [Rows.uptoBulk, Rows.uptoBulkAll, List.map_cons, List.map_nil, wtO]
  omega
theorem one_byte (fuel : Nat) (cs : List Value) (x : DataW H × List MemPlace) (h : DataW.trod enc Tryz.prog W 0 (fun _ => true) held fuel 5 cs = some x) (hw : ∀ n ∈ x.1.weights Tryz.prog 5, n ≤ reachBytes) :
    ∃ c : UInt8, cs = BU.enc c ∧ 1 ≤ Rows.uptoBulk x.1 := by
  obtain ⟨z, e, _, w⟩ := DataW.trod_int (k := .u8) Tryz.underlying5 h
  obtain ⟨n, rfl, hn⟩ := u8_nat w
  refine ⟨UInt8.ofNat n, ?_, bulk_one _⟩
  rw [e]
  have e2 : (UInt8.ofNat n).toNat = n := by rw [UInt8.toNat_ofNat']; omega
  show [_] = [bv (UInt8.ofNat n)]
  unfold bv
  rw [e2]
def OkFd (W : World) (v : FV) (d : DataW H) : Prop := FVok W v ∧ wtF v ≤ Rows.uptoBulk d
set_option maxRecDepth 100000 in
theorem one_file (fuel : Nat) (cs : List Value) (x : DataW H × List MemPlace) (h : DataW.trod enc Tryz.prog W 0 (fun _ => true) held fuel 66 cs = some x) (hw : ∀ n ∈ x.1.weights Tryz.prog 66, n ≤ reachBytes) :
    ∃ v : FV, cs = LFE.enc v ∧ OkFd W v x.1 := by
  obtain ⟨xs, n, _, rfl, hlen, hxl, hff⟩ := DataW.trod_struct Tryz.underlying66 h
  rw [mcF15] at hlen
  obtain ⟨c0, c1, c2, rfl⟩ := list3l hlen
  obtain ⟨y0, y1, y2, rfl⟩ := list3l hxl
  have f0 := hff 0 _ rfl
  have f1 := hff 1 _ rfl
  have f2 := hff 2 _ rfl
  obtain ⟨wh, e0, _, w0⟩ := DataW.trod_int (k := .i64) Tryz.underlying3 f0
  obtain ⟨ap, np, cp, e1⟩ := is_slice (c := c1) Tryz.underlying29 f1
  subst e1
  obtain ⟨fu, e2, _⟩ := DataW.trod_bool Tryz.underlying4 f2
  obtain ⟨bs, lo, so, _, _, bl, _⟩ := open_listB BU okU (0 : UInt8) (fun v d => 1 ≤ Rows.uptoBulk d) (fun _ => 1) (fun v d h => h) fcells5 fbytes5 (fun fuel cs x h hw => one_byte fuel cs x h hw) f1 (each_mem Tryz.underlying66 (j := 1) hw rfl rfl)
  have q0 : [c0] = [Value.int .i64 wh] := e0
  have q2 : [c2] = [Value.bool fu] := e2
  injection q0 with q0 _
  injection q2 with q2 _
  subst q0 q2
  refine ⟨⟨wh, ap, np, cp, fu, bs⟩, rfl, ⟨lo.symm, so⟩, ?_⟩
  have bl' : np ≤ Rows.uptoBulk y1.1 := bl
  simp only [Rows.uptoBulk, Rows.uptoBulkAll, List.map_cons, List.map_nil, wtF]
  omega
end
theorem open_files {H : Type} {enc : TypeId × Value → H} {W : World} {held : Bool} {fuel : Nat} {a : Option Addr} {len cap : Nat} {x : DataW H × List MemPlace}
    (hf : DataW.trod enc Tryz.prog W 0 (fun _ => true) held fuel 60 [.slice a len cap] = some x) (hw : ∀ n ∈ x.1.weights Tryz.prog 60, n ≤ reachBytes) (hB : Rows.uptoBulk x.1 ≤ 1048576) :
    ∃ l : List FV, len = l.length ∧ Sl LFE W a cap l ∧ (∀ v ∈ l, FVok W v) ∧ (l.map wtF).sum ≤ 1048576 ∧ (len : Int) ≤ 1048576 := by
  obtain ⟨l, hl, hs, hok, _, hb, hsum⟩ := open_listB LFE okF15 fv0 (fun v d => OkFd W v d) wtF (fun v d h => h.2) mcF15 mbF15 (fun fuel cs x h hw => one_file fuel cs x h hw) hf hw
  refine ⟨l, hl.symm, hs, fun v hv => ?_, Nat.le_trans hsum hB, by have : len ≤ Rows.uptoBulk x.1 := hb; omega⟩
  obtain ⟨d, h1, _⟩ := hok v hv
  exact h1
theorem open_ops {H : Type} {enc : TypeId × Value → H} {W : World} {held : Bool} {fuel : Nat} {a : Option Addr} {len cap : Nat} {x : DataW H × List MemPlace}
    (hf : DataW.trod enc Tryz.prog W 0 (fun _ => true) held fuel 39 [.slice a len cap] = some x) (hw : ∀ n ∈ x.1.weights Tryz.prog 39, n ≤ reachBytes) (hB : Rows.uptoBulk x.1 ≤ 1048576) :
    ∃ l : List OV, len = l.length ∧ Sl OE W a cap l ∧ (∀ v ∈ l, OVok v) ∧ (l.map wtO).sum ≤ 1048576 ∧ (len : Int) ≤ 1048576 := by
  obtain ⟨l, hl, hs, hok, _, hb, hsum⟩ := open_listB OE okO ov0 (fun v d => OkD v d) wtO (fun v d h => h.2) mcO mbO (fun fuel cs x h hw => one_op fuel cs x h hw) hf hw
  refine ⟨l, hl.symm, hs, fun v hv => ?_, Nat.le_trans hsum hB, by have : len ≤ Rows.uptoBulk x.1 := hb; omega⟩
  obtain ⟨d, h1, _⟩ := hok v hv
  exact h1
end Go.Proofs.YtdemoghlibnooaaGreatDoor
