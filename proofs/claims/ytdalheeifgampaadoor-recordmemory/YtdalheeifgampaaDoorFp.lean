/- What came in: records to be made. -/
import Derived.Test.YtdalheeifgampaaDoorFm
import Derived.Test.YtdalheeifgampaaDoorD5
namespace Go.Proofs.YtdalheeifgampaaDoor
open Go.ChangeShapes Go.WideShapes Go.ChangeAt Go.RowKit Go.Deep
set_option linter.unusedVariables false
set_option linter.unusedSimpArgs false

theorem mcL : Tryd.prog.cellsOf 25 = 5 := by kernel_rfl
theorem mbL : Tryd.prog.bytesOf 25 = 64 := by kernel_rfl
/-- a plain's own cells -/
structure PV where
  cmt : Bool
  id : Nat
  o : Option Addr
  n : Nat
  c : Nat
  sm : Nat
  val : Tx
def pv0 : PV := ⟨false, 0, none, 0, 0, 0, e0⟩
def QE : El PV := ⟨25, 46, 5, 64, fun v => [.bool v.cmt, .int .u64 (v.id : Nat), .slice v.o v.n v.c, .int .u64 (v.sm : Nat), .string v.val]⟩
theorem infoQ : (Tryd.prog.info? 25).map (fun i => (i.zero, i.size, i.bytes)) = some (some (.agg #[.bool false, .int .u64 0, .slice none 0 0, .int .u64 0, .string ⟨#[]⟩]), 5, 64) := by kernel_rfl
theorem okQ : QE.Ok := by
  obtain ⟨i0, hi, hz0, hz1, hz2⟩ := info_parts infoQ
  exact ⟨fun _ => rfl, fun x u hu => by simp [QE] at hu; rcases hu with rfl | rfl | rfl | rfl | rfl <;> rfl, by decide, Tryd.underlying46, i0, _, hi, hz0, hz1, hz2, rfl⟩
def OkPV (W : World) (v : PV) : Prop := ∃ xs, IsPl W v.id v.o v.n v.c v.sm v.val xs
section
variable {H : Type} {enc : TypeId × Value → H} {W : World} {held : Bool}
set_option maxRecDepth 100000 in
theorem one_plain (fuel : Nat) (cs : List Value) (x : DataW H × List MemPlace) (h : DataW.trod enc Tryd.prog W 0 (fun _ => true) held fuel 25 cs = some x) (hw : ∀ n ∈ x.1.weights Tryd.prog 25, n ≤ reachBytes) :
    ∃ v : PV, cs = QE.enc v ∧ OkPV W v := by
  obtain ⟨xs, n, _, rfl, hlen, hxl, hff⟩ := DataW.trod_struct Tryd.underlying25 h
  rw [mcL] at hlen
  obtain ⟨c0, c1, c2, c3, c4, rfl⟩ := list5 hlen
  obtain ⟨y0, y1, y2, y3, y4, rfl⟩ := list5 hxl
  have f0 := hff 0 _ rfl
  have f1 := hff 1 _ rfl
  have f2 := hff 2 _ rfl
  have f3 := hff 3 _ rfl
  obtain ⟨b, e0, _⟩ := DataW.trod_bool Tryd.underlying4 f0
  obtain ⟨mi, e1, _, w1⟩ := DataW.trod_int (k := .u64) Tryd.underlying22 f1
  obtain ⟨o, n', c, e2⟩ := is_slice (c := c2) Tryd.underlying23 f2
  obtain ⟨sm, e3, _, w3⟩ := DataW.trod_int (k := .u64) Tryd.underlying22 f3
  obtain ⟨s4, e4, z4⟩ := one_text _ _ _ (hff 4 _ rfl) (each_mem Tryd.underlying25 (j := 4) hw rfl rfl)
  subst e2
  obtain ⟨ks, lk, sk, gk, zk⟩ := open_txs f2 (each_mem Tryd.underlying25 (j := 2) hw rfl rfl)
  have q0 : [c0] = [Value.bool b] := e0
  have q1 : [c1] = [Value.int .u64 mi] := e1
  have q3 : [c3] = [Value.int .u64 sm] := e3
  have q4 : [c4] = [Value.string s4] := e4
  injection q0 with q0 _
  injection q1 with q1 _
  injection q3 with q3 _
  injection q4 with q4 _
  subst q0 q1 q3 q4
  obtain ⟨mi, rfl, hi⟩ := u64_nat w1
  obtain ⟨sm, rfl, hsm⟩ := u64_nat w3
  have c2 := sk.cap
  rw [reach_eq] at zk
  exact ⟨⟨b, mi, o, n', c, sm, s4⟩, rfl, ks, hi, hsm, lk.symm, by simp only; omega, sk, gk, z4⟩
set_option maxRecDepth 100000 in
theorem open_plain {base : Nat} {v : Value} {d : DataW H} {p : List MemPlace}
    (hv : Value.okWide Tryd.prog W .any base 25 v) (h : DataW.Trod enc Tryd.prog W 0 (fun _ => true) true 25 v d p)
    {ts : List TypeId} {ds : List (DataW H)} (hsz : (DataW.weightsEach Tryd.prog ts ds).all (· ≤ reachBytes) = true) {j : Nat} (ht : ts[j]? = some 25) (hd : ds[j]? = some d) :
    ∃ (cmt : Bool) (i : Nat) (o : Option Addr) (n c sm : Nat) (val : Tx) (xs : List Tx), v = .agg #[.bool cmt, .int .u64 (i : Nat), .slice o n c, .int .u64 (sm : Nat), .string val] ∧ IsPl W i o n c sm val xs := by
  obtain ⟨cs, rfl, hcs⟩ := okWide_struct Tryd.underlying25 hv
  obtain ⟨c0, c1, c2, c3, c4, rfl⟩ := array5 (hcs.trans mcL)
  obtain ⟨fuel, hf⟩ := h
  have hw : ∀ n ∈ d.weights Tryd.prog 25, n ≤ reachBytes := fun n hn => by
    have := List.all_eq_true.1 hsz n (DataW.weights_mem_each (j := j) ht hd n hn)
    simpa using this
  obtain ⟨v, he, xs, hP⟩ := one_plain fuel _ _ hf hw
  have he' : [c0, c1, c2, c3, c4] = [Value.bool v.cmt, .int .u64 (v.id : Nat), .slice v.o v.n v.c, .int .u64 (v.sm : Nat), .string v.val] := he
  simp only [List.cons.injEq, and_true] at he'
  obtain ⟨rfl, rfl, rfl, rfl, rfl⟩ := he'
  exact ⟨v.cmt, v.id, v.o, v.n, v.c, v.sm, v.val, xs, rfl, hP⟩
end
end Go.Proofs.YtdalheeifgampaaDoor
