/- What came in: lists of records. -/
import Derived.Test.YtgamhblkgojapaaGreatDoorFm
namespace Go.Proofs.YtgamhblkgojapaaGreatDoor
open Go.ChangeShapes Go.WideShapes Go.ChangeAt Go.RowKit Go.Deep
set_option linter.unusedVariables false
set_option linter.unusedSimpArgs false

theorem mbC : Tryz.prog.bytesOf 41 = 64 := by kernel_rfl
def OkCV (W : World) (v : CV) : Prop := ∃ r, IsC W v r
section
variable {H : Type} {enc : TypeId × Value → H} {W : World} {held : Bool}
set_option maxRecDepth 100000 in
theorem one_rec (fuel : Nat) (cs : List Value) (x : DataW H × List MemPlace) (h : DataW.trod enc Tryz.prog W 0 (fun _ => true) held fuel 41 cs = some x) (hw : ∀ n ∈ x.1.weights Tryz.prog 41, n ≤ reachBytes) :
    ∃ v : CV, cs = CE.enc v ∧ OkCV W v := by
  obtain ⟨xs, n, _, rfl, hlen, hxl, hff⟩ := DataW.trod_struct Tryz.underlying41 h
  rw [mcC] at hlen
  obtain ⟨c0, c1, c2, c3, rfl⟩ := list4 hlen
  obtain ⟨y0, y1, y2, y3, rfl⟩ := list4 hxl
  have f0 := hff 0 _ rfl
  have f1 := hff 1 _ rfl
  have f2 := hff 2 _ rfl
  have f3 := hff 3 _ rfl
  obtain ⟨mk, e0, _, w0⟩ := DataW.trod_int (k := .i64) Tryz.underlying3 f0
  obtain ⟨mi, e1, _, w1⟩ := DataW.trod_int (k := .u64) Tryz.underlying37 f1
  have q0 : [c0] = [Value.int .i64 mk] := e0
  have q1 : [c1] = [Value.int .u64 mi] := e1
  obtain ⟨op, np, cp, e2⟩ := is_slice (c := c2) Tryz.underlying38 f2
  obtain ⟨ok, nk, ck, e3⟩ := is_slice (c := c3) Tryz.underlying39 f3
  subst e2 e3
  obtain ⟨ps, lp, sp, gp, zp⟩ := open_list PE okP p0 _ mcP mbP (fun fuel cs x h hw => one_pair fuel cs x h hw) f2 (each_mem Tryz.underlying41 (j := 2) hw rfl rfl)
  obtain ⟨ks, lk, sk, gk, zk⟩ := open_txs f3 (each_mem Tryz.underlying41 (j := 3) hw rfl rfl)
  injection q0 with q0 _
  injection q1 with q1 _
  subst q0 q1
  obtain ⟨mi, rfl, hi⟩ := u64_nat w1
  have b0 := bounds_i64 w0
  have c1 := sp.cap
  have c2 := sk.cap
  have zp' : cp * 32 ≤ reachBytes := zp
  rw [reach_eq] at zp' zk
  exact ⟨⟨mk, mi, op, np, cp, ok, nk, ck⟩, rfl, ⟨mk, mi, ps, ks⟩, rfl, rfl, lp.symm, lk.symm, sp, sk, ⟨by show ks.length ≤ _; omega, gk, by show ps.length ≤ _; omega, gp, b0.1, b0.2, hi⟩⟩
end
end Go.Proofs.YtgamhblkgojapaaGreatDoor
