/- What came in: scripts of calls. -/
import Derived.Test.YtgamhblkgojapaaGreatDoorFc
import Derived.Test.YtgamhblkgojapaaGreatDoorGO
namespace Go.Proofs.YtgamhblkgojapaaGreatDoor
open Go.ChangeShapes Go.WideShapes Go.ChangeAt Go.RowKit Go.Deep
set_option linter.unusedVariables false
set_option linter.unusedSimpArgs false

theorem mcO : Tryz.prog.cellsOf 44 = 9 := by kernel_rfl
theorem mbO : Tryz.prog.bytesOf 44 = 128 := by kernel_rfl
theorem mc5 : Tryz.prog.cellsOf 5 = 1 := by kernel_rfl
theorem mb5 : Tryz.prog.bytesOf 5 = 1 := by kernel_rfl
/-- a call's own cells -/
structure OV where
  kd : Int
  rv : CV
  n : Int
  k : Int
  nm : Tx
  ob : Option Addr
  nb : Nat
  cb : Nat
def ov0 : OV := ⟨0, cv0, 0, 0, e0, none, 0, 0⟩
def OE : El OV := ⟨44, 22, 9, 128, fun v => [.int .i64 v.kd, .int .i64 v.rv.k, .int .u64 (v.rv.i : Nat), .slice v.rv.op v.rv.np v.rv.cp, .slice v.rv.ok v.rv.nk v.rv.ck, .int .i64 v.n, .int .i64 v.k, .string v.nm, .slice v.ob v.nb v.cb]⟩
theorem infoO : (Tryz.prog.info? 44).map (fun i => (i.zero, i.size, i.bytes)) = some (some (.agg #[.int .i64 0, .int .i64 0, .int .u64 0, .slice none 0 0, .slice none 0 0, .int .i64 0, .int .i64 0, .string ⟨#[]⟩, .slice none 0 0]), 9, 128) := by kernel_rfl
theorem okO : OE.Ok := by
  obtain ⟨i0, hi, hz0, hz1, hz2⟩ := info_parts infoO
  exact ⟨fun _ => rfl, fun x u hu => by simp [OE] at hu; rcases hu with rfl | rfl | rfl | rfl | rfl | rfl | rfl | rfl | rfl <;> rfl, by decide, Tryz.underlying22, i0, _, hi, hz0, hz1, hz2, rfl⟩
structure OkO (W : World) (v : OV) (r : Rec) (bs : List UInt8) : Prop where
  rc : IsC W v.rv r
  n1 : -9223372036854775808 ≤ v.n
  n2 : v.n ≤ 9223372036854775807
  k1 : -9223372036854775808 ≤ v.k
  k2 : v.k ≤ 9223372036854775807
  nm : v.nm.size ≤ 140737488351232
  nb : v.nb = bs.length
  sl : Sl BU W v.ob v.cb bs
  bl : bs.length ≤ 140737488351232
def OkOV (W : World) (v : OV) : Prop := ∃ r bs, OkO W v r bs
theorem list9 {α : Type} {cs : List α} (h : cs.length = 9) : ∃ c0 c1 c2 c3 c4 c5 c6 c7 c8, cs = [c0, c1, c2, c3, c4, c5, c6, c7, c8] := by
  match cs, h with
  | [c0, c1, c2, c3, c4, c5, c6, c7, c8], _ => exact ⟨c0, c1, c2, c3, c4, c5, c6, c7, c8, rfl⟩
theorem list6 {α : Type} {cs : List α} (h : cs.length = 6) : ∃ c0 c1 c2 c3 c4 c5, cs = [c0, c1, c2, c3, c4, c5] := by
  match cs, h with
  | [c0, c1, c2, c3, c4, c5], _ => exact ⟨c0, c1, c2, c3, c4, c5, rfl⟩
section
variable {H : Type} {enc : TypeId × Value → H} {W : World} {held : Bool}
theorem one_byte (fuel : Nat) (cs : List Value) (x : DataW H × List MemPlace) (h : DataW.trod enc Tryz.prog W 0 (fun _ => true) held fuel 5 cs = some x) (hw : ∀ n ∈ x.1.weights Tryz.prog 5, n ≤ reachBytes) :
    ∃ p : UInt8, cs = BU.enc p ∧ True := by
  obtain ⟨z, e, _, w⟩ := DataW.trod_int (k := .u8) Tryz.underlying5 h
  have b := bounds_u8 w
  refine ⟨UInt8.ofNat z.toNat, ?_, trivial⟩
  rw [e]
  have e2 : (UInt8.ofNat z.toNat).toNat = z.toNat := by simp [UInt8.toNat_ofNat]; omega
  simp only [BU, bv, e2]
  rw [Int.toNat_of_nonneg b.1]
set_option maxRecDepth 100000 in
theorem one_op (fuel : Nat) (cs : List Value) (x : DataW H × List MemPlace) (h : DataW.trod enc Tryz.prog W 0 (fun _ => true) held fuel 44 cs = some x) (hw : ∀ n ∈ x.1.weights Tryz.prog 44, n ≤ reachBytes) :
    ∃ v : OV, cs = OE.enc v ∧ OkOV W v := by
  obtain ⟨xs, n, _, rfl, hlen, hxl, hff⟩ := DataW.trod_struct Tryz.underlying44 h
  rw [mcO] at hlen
  obtain ⟨c0, c1, c2, c3, c4, c5, c6, c7, c8, rfl⟩ := list9 hlen
  obtain ⟨y0, y1, y2, y3, y4, y5, rfl⟩ := list6 hxl
  have f0 := hff 0 _ rfl
  have f1 := hff 1 _ rfl
  have f2 := hff 2 _ rfl
  have f3 := hff 3 _ rfl
  have f5 := hff 5 _ rfl
  obtain ⟨kd, e0, _, w0⟩ := DataW.trod_int (k := .i64) Tryz.underlying3 f0
  obtain ⟨rv, e1, r, hr⟩ := one_rec _ _ _ f1 (each_mem Tryz.underlying44 (j := 1) hw rfl rfl)
  obtain ⟨zn, e2, _, w2⟩ := DataW.trod_int (k := .i64) Tryz.underlying3 f2
  obtain ⟨zk, e3, _, w3⟩ := DataW.trod_int (k := .i64) Tryz.underlying3 f3
  obtain ⟨s4, e4, z4⟩ := one_text _ _ _ (hff 4 _ rfl) (each_mem Tryz.underlying44 (j := 4) hw rfl rfl)
  obtain ⟨ob, nb, cb, e5⟩ := is_slice (c := c8) Tryz.underlying42 f5
  subst e5
  obtain ⟨bs, lb, sb, _, zb⟩ := open_list BU okU 0 (fun _ => True) mc5 mb5 (fun fuel cs x h hw => one_byte fuel cs x h hw) f5 (each_mem Tryz.underlying44 (j := 5) hw rfl rfl)
  have q0 : [c0] = [Value.int .i64 kd] := e0
  have q1 : [c1, c2, c3, c4] = [Value.int .i64 rv.k, Value.int .u64 (rv.i : Nat), Value.slice rv.op rv.np rv.cp, Value.slice rv.ok rv.nk rv.ck] := e1
  have q2 : [c5] = [Value.int .i64 zn] := e2
  have q3 : [c6] = [Value.int .i64 zk] := e3
  have q4 : [c7] = [Value.string s4] := e4
  injection q0 with q0 _
  injection q1 with q1 q1'
  injection q1' with q5 q1''
  injection q1'' with q6 q1'''
  injection q1''' with q7 _
  injection q2 with q2 _
  injection q3 with q3 _
  injection q4 with q4 _
  subst q0 q1 q2 q3 q4 q5 q6 q7
  have b2 := bounds_i64 w2
  have b3 := bounds_i64 w3
  have hc := sb.cap
  have zb' : cb * 1 ≤ reachBytes := zb
  rw [reach_eq] at zb'
  exact ⟨⟨kd, rv, zn, zk, s4, ob, nb, cb⟩, rfl, r, bs, hr, b2.1, b2.2, b3.1, b3.2, z4, lb.symm, sb, by omega⟩
end
end Go.Proofs.YtgamhblkgojapaaGreatDoor
