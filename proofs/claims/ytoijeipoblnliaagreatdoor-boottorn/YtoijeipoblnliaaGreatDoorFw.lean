import Derived.Test.YtoijeipoblnliaaGreatDoorFz
import Derived.Test.YtoijeipoblnliaaGreatDoorYE
/- The argument World. -/
namespace Go.Proofs.YtoijeipoblnliaaGreatDoor
open Go.ChangeShapes Go.WideShapes Go.ChangeAt Go.RowKit Go.Deep
set_option linter.unusedVariables false
set_option linter.unusedSimpArgs false
set_option linter.constructorNameAsVariable false

theorem mcR : Tryz.prog.cellsOf 57 = 4 := by kernel_rfl
theorem mbR : Tryz.prog.bytesOf 57 = 40 := by kernel_rfl
theorem mcV : Tryz.prog.cellsOf 27 = 5 := by kernel_rfl
theorem ctV : Tryz.prog.cellTypes Tryz.prog.depth 27 = some [2, 25, 25, 3, 3] := by kernel_rfl
theorem list4 {α : Type} {l : List α} (h : l.length = 4) : ∃ a b c d, l = [a, b, c, d] := by
  match l, h with
  | [a, b, c, d], _ => exact ⟨a, b, c, d, rfl⟩
theorem list5 {α : Type} {l : List α} (h : l.length = 5) : ∃ a b c d e, l = [a, b, c, d, e] := by
  match l, h with
  | [a, b, c, d, e], _ => exact ⟨a, b, c, d, e, rfl⟩
theorem i64_of {z : Int} (w : (Lit.int .i64 z).wf = true) : I64 z := by
  have := bounds_i64 w
  exact ⟨this.1, this.2⟩
theorem has_lt {P : Program} {w : World} {r : Reach} {base : Nat} {a : Addr} {e : TypeId} {n : Nat} (h : w.has P r base a e n) : a.block < w.heap.size := by
  obtain ⟨_, _, row, cells, hs, _⟩ := h
  unfold World.shape? at hs
  split at hs
  · rename_i hb
    exact lt_of_block hb
  · cases hs
theorem slice_lt {w : World} {base : Nat} {a : Option Addr} {n c : Nat} {t e : TypeId} (ht : Tryz.prog.underlying t = some (.slice e)) (h : Cell.okWide Tryz.prog w .any base t (.slice a n c)) : ∀ b, inO a b → b < w.heap.size := by
  rintro b ⟨x, rfl, rfl⟩
  simp only [Cell.okWide, ht, Cell.ok] at h
  exact has_lt h.2.2
section
variable {H : Type} {enc : TypeId × Value → H} {W : World} {held : Bool}
set_option maxRecDepth 100000 in
theorem one_raw (fuel : Nat) (cs : List Value) (x : DataW H × List MemPlace) (h : DataW.trod enc Tryz.prog W 0 (fun _ => true) held fuel 57 cs = some x) (hw : ∀ n ∈ x.1.weights Tryz.prog 57, n ≤ reachBytes) :
    ∃ p : RW, cs = WE.enc p ∧ RWok p := by
  obtain ⟨xs, n, _, rfl, hlen, hxl, hff⟩ := DataW.trod_struct Tryz.underlying57 h
  rw [mcR] at hlen
  obtain ⟨c0, c1, c2, c3, rfl⟩ := list4 hlen
  obtain ⟨y0, y1, y2, y3, rfl⟩ := list4 hxl
  obtain ⟨z0, e0, _, w0⟩ := DataW.trod_int (k := .i64) Tryz.underlying3 (hff 0 _ rfl)
  obtain ⟨z1, e1, _, w1⟩ := DataW.trod_int (k := .i64) Tryz.underlying3 (hff 1 _ rfl)
  obtain ⟨z2, e2, _, w2⟩ := DataW.trod_int (k := .i64) Tryz.underlying3 (hff 2 _ rfl)
  obtain ⟨s, e3, _⟩ := one_text _ _ _ (hff 3 _ rfl) (each_mem Tryz.underlying57 (j := 3) hw rfl rfl)
  have q0 : [c0] = [Value.int .i64 z0] := e0
  have q1 : [c1] = [Value.int .i64 z1] := e1
  have q2 : [c2] = [Value.int .i64 z2] := e2
  have q3 : [c3] = [Value.string s] := e3
  injection q0 with q0 _
  injection q1 with q1 _
  injection q2 with q2 _
  injection q3 with q3 _
  subst q0 q1 q2 q3
  exact ⟨⟨z0, z1, z2, s⟩, rfl, ⟨i64_of w0, i64_of w1, i64_of w2⟩⟩
theorem open_raws {fuel : Nat} {a : Option Addr} {len cap : Nat} {x : DataW H × List MemPlace}
    (hf : DataW.trod enc Tryz.prog W 0 (fun _ => true) held fuel 25 [.slice a len cap] = some x) (hw : ∀ n ∈ x.1.weights Tryz.prog 25, n ≤ reachBytes) :
    ∃ l : List RW, l.length = len ∧ Sl WE W a cap l ∧ (∀ x ∈ l, RWok x) ∧ cap * 40 ≤ reachBytes :=
  open_list WE okW rw0 RWok mcR mbR (fun fuel cs x h hw => one_raw fuel cs x h hw) hf hw
set_option maxRecDepth 100000 in
theorem open_world {base : Nat} {v : Value} {d : DataW H} {p : List MemPlace} (hv : Value.okWide Tryz.prog W .any base 27 v) (h : DataW.Trod enc Tryz.prog W 0 (fun _ => true) held 27 v d p) (hw : ∀ n ∈ d.weights Tryz.prog 27, n ≤ reachBytes) :
    ∃ V sl ll, v = WV.val V ∧ WIn W V sl ll := by
  simp only [Value.okWide, Tryz.underlying27] at hv
  obtain ⟨⟨cs⟩, rfl, hsz, ts, hts, _, hc⟩ := hv
  rw [ctV] at hts
  cases hts
  obtain ⟨fuel, hf⟩ := h
  obtain ⟨xs, n, _, hx, hlen, hxl, hff⟩ := DataW.trod_struct Tryz.underlying27 hf
  obtain ⟨rfl, rfl⟩ := Prod.mk.inj hx
  rw [mcV] at hsz
  obtain ⟨c0, c1, c2, c3, c4, rfl⟩ := list5 (l := cs) hsz
  obtain ⟨y0, y1, y2, y3, y4, rfl⟩ := list5 hxl
  obtain ⟨z0, e0, _, w0⟩ := DataW.trod_int (k := .i64) Tryz.underlying2 (hff 0 _ rfl)
  obtain ⟨z3, e3, _, w3⟩ := DataW.trod_int (k := .i64) Tryz.underlying3 (hff 3 _ rfl)
  obtain ⟨z4, e4, _, w4⟩ := DataW.trod_int (k := .i64) Tryz.underlying3 (hff 4 _ rfl)
  have f1 := hff 1 _ rfl
  have f2 := hff 2 _ rfl
  obtain ⟨so, sn, sc, e1⟩ := is_slice (c := c1) Tryz.underlying25 f1
  obtain ⟨lo, ln, lc, e2⟩ := is_slice (c := c2) Tryz.underlying25 f2
  subst e1 e2
  have q0 : [c0] = [Value.int .i64 z0] := e0
  have q3 : [c3] = [Value.int .i64 z3] := e3
  have q4 : [c4] = [Value.int .i64 z4] := e4
  injection q0 with q0 _
  injection q3 with q3 _
  injection q4 with q4 _
  subst q0 q3 q4
  obtain ⟨sl, ls, ss, sk, _⟩ := open_raws f1 (each_mem Tryz.underlying27 (j := 1) hw rfl rfl)
  obtain ⟨ll, lk, sk', kk, _⟩ := open_raws f2 (each_mem Tryz.underlying27 (j := 2) hw rfl rfl)
  obtain ⟨u1, hu1, k1⟩ := hc 1 _ rfl
  obtain ⟨u2, hu2, k2⟩ := hc 2 _ rfl
  cases hu1
  cases hu2
  exact ⟨⟨z0, so, sn, sc, lo, ln, lc, z3, z4⟩, sl, ll, rfl, ⟨i64_of w0, i64_of w3, i64_of w4, ls.symm, lk.symm, ss, sk', sk, kk, slice_lt Tryz.underlying25 k1, slice_lt Tryz.underlying25 k2⟩⟩
end
end Go.Proofs.YtoijeipoblnliaaGreatDoor
