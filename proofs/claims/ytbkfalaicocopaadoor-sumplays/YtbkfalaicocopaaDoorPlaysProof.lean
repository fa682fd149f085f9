import Derived.Test.YtbkfalaicocopaaDoorFrame2
import Derived.Test.YtbkfalaicocopaaDoorPlaysWalk
import Derived.Lib.SmallJoins
import Derived.ShutString
namespace Go.Proofs.YtbkfalaicocopaaDoor.sumPlays
open Go.ChangeShapes Go.WideShapes Go.ChangeAt Go.RowKit Go.Joins
set_option linter.unusedVariables false

theorem array6 {α : Type} {cs : Array α} (h : cs.size = 6) : ∃ c0 c1 c2 c3 c4 c5, cs = #[c0, c1, c2, c3, c4, c5] := by
  obtain ⟨l⟩ := cs
  match l, h with
  | [c0, c1, c2, c3, c4, c5], _ => exact ⟨c0, c1, c2, c3, c4, c5, rfl⟩
theorem list6 {α : Type} {cs : List α} (h : cs.length = 6) : ∃ c0 c1 c2 c3 c4 c5, cs = [c0, c1, c2, c3, c4, c5] := by
  match cs, h with
  | [c0, c1, c2, c3, c4, c5], _ => exact ⟨c0, c1, c2, c3, c4, c5, rfl⟩
theorem cells38 : Tryd.prog.cellsOf 38 = 6 := by kernel_rfl

/-- the struct, field by field -/
theorem open_asked {H : Type} {enc : TypeId × Value → H} {W : World} {base : Nat} {v : Value} {d : DataW H} {p : List MemPlace}
    (hv : Value.okWide Tryd.prog W .any base 38 v) (h : DataW.Trod enc Tryd.prog W 0 (fun _ => true) true 38 v d p) :
    ∃ (c0 c1 c2 c3 c4 c5 : Value) (y0 y1 y2 y3 y4 y5 : DataW H × List MemPlace) (n : Nat), v = .agg #[c0, c1, c2, c3, c4, c5] ∧ d = .agg [y0.1, y1.1, y2.1, y3.1, y4.1, y5.1] ∧
      DataW.trod enc Tryd.prog W 0 (fun _ => true) true n 25 [c0] = some y0 ∧ DataW.trod enc Tryd.prog W 0 (fun _ => true) true n 9 [c1] = some y1 ∧
      DataW.trod enc Tryd.prog W 0 (fun _ => true) true n 22 [c2] = some y2 ∧ DataW.trod enc Tryd.prog W 0 (fun _ => true) true n 22 [c3] = some y3 ∧
      DataW.trod enc Tryd.prog W 0 (fun _ => true) true n 31 [c4] = some y4 ∧ DataW.trod enc Tryd.prog W 0 (fun _ => true) true n 3 [c5] = some y5 := by
  obtain ⟨cs, rfl, hsz⟩ := okWide_struct Tryd.underlying38 hv
  obtain ⟨c0, c1, c2, c3, c4, c5, rfl⟩ := array6 (hsz.trans cells38)
  obtain ⟨fuel, hf⟩ := h
  obtain ⟨xs, n, _, hx, hl, hlen, hff⟩ := DataW.trod_struct Tryd.underlying38 hf
  obtain ⟨y0, y1, y2, y3, y4, y5, rfl⟩ := list6 hlen
  have k25 : Tryd.prog.cellsOf 25 = 1 := by kernel_rfl
  have k9 : Tryd.prog.cellsOf 9 = 1 := by kernel_rfl
  have k22 : Tryd.prog.cellsOf 22 = 1 := by kernel_rfl
  have k31 : Tryd.prog.cellsOf 31 = 1 := by kernel_rfl
  have k3 : Tryd.prog.cellsOf 3 = 1 := by kernel_rfl
  simp only [Prod.mk.injEq] at hx
  have f0 := hff 0 _ rfl
  have f1 := hff 1 _ rfl
  have f2 := hff 2 _ rfl
  have f3 := hff 3 _ rfl
  have f4 := hff 4 _ rfl
  have f5 := hff 5 _ rfl
  refine ⟨c0, c1, c2, c3, c4, c5, y0, y1, y2, y3, y4, y5, n, rfl, by simpa using hx.1, ?_, ?_, ?_, ?_, ?_, ?_⟩
  · simpa [Value.cells, k25] using f0
  · simpa [Value.cells, k9] using f1
  · simpa [Value.cells, k22] using f2
  · simpa [Value.cells, k22] using f3
  · simpa [Value.cells, k31] using f4
  · simpa [Value.cells, k3] using f5

theorem contract (H : Type) (enc : TypeId × Value → H) (W : World) (base : Nat) (args : Array Value) (ds gs : List (DataW H)) (before : List MemPlace)
    (hval : ∀ (j : Nat) t v, Tryd.f6.params[j]? = some t → args[j]? = some v → Value.okWide Tryd.prog W .any base t v)
    (hW : DataW.Whole enc Tryd.prog Tryd.f6.params.toList Rows.sumPlaysSpec.vars false W args.toList ds gs before)
    (hsz : (DataW.weightsEach Tryd.prog (Tryd.f6.params.toList ++ Rows.sumPlaysSpec.plain.varTypes Tryd.prog) (ds ++ gs)).all (· ≤ reachBytes) = true) (hL : laidMetH Tryd.prog Rows.sumPlaysRow.laid W) :
    Calls Tryd.prog 6 args W fun e W' => ∃ v, e = .returned v ∧ Rows.sumPlaysSpec.post enc Tryd.prog Tryd.f6 false true false false W args v W' := by
  have hW' := hW
  obtain ⟨p, q, hA0, hV, rfl, hfz, hnd⟩ := hW
  have hA : DataW.TrodAll enc Tryd.prog W 0 (fun _ => true) true Tryd.f6.params.toList args.toList ds p := hA0
  rw [Tryd.params6] at hA hval hsz
  obtain ⟨v0, vs0, d0, ds0, p0, q0, hargs, rfl, rfl, h0, r0⟩ := trodAll_cons hA
  obtain ⟨rfl, rfl, rfl⟩ := trodAll_nil r0
  obtain rfl : args = #[v0] := by cases args; simp_all
  obtain ⟨rfl, rfl⟩ := trodVars_none hV
  have k0 := h0
  have lt0 : ∀ x ∈ p0, x.block < W.heap.size := by obtain ⟨m, hm⟩ := k0; exact DataW.trod_lt m _ _ _ hm
  obtain ⟨c0, c1, c2, c3, c4, c5, y0, y1, y2, y3, y4, y5, n, rfl, hd, f0, f1, f2, f3, f4, f5⟩ := open_asked (hval 0 38 v0 rfl rfl) h0
  have hsz6 : (DataW.weightsEach Tryd.prog [25, 9, 22, 22, 31, 3] [y0.1, y1.1, y2.1, y3.1, y4.1, y5.1]).all (· ≤ reachBytes) = true := by
    rw [List.all_eq_true] at hsz ⊢
    intro x hx
    refine hsz x (DataW.weights_mem_each (j := 0) (t := 38) (d := d0) rfl rfl x ?_)
    rw [hd]
    simp only [DataW.weights, Tryd.underlying38]
    exact hx
  obtain ⟨T, e1, eT, sT⟩ := DataW.trod_string Tryd.underlying9 f1
  obtain ⟨S, e2, eS, wS⟩ := DataW.trod_int Tryd.underlying22 f2
  obtain ⟨R, e3, eR, wR⟩ := DataW.trod_int Tryd.underlying22 f3
  obtain ⟨Hh, e4, eH, wH⟩ := DataW.trod_int Tryd.underlying31 f4
  obtain ⟨Nn, e5, eN, wN⟩ := DataW.trod_int Tryd.underlying3 f5
  obtain ⟨a, len, cap, e0⟩ : ∃ a len cap, c0 = .slice a len cap := by
    rcases open_ints Tryd.underlying25 Tryd.underlying5 cells5 f0 with ⟨hcs, _⟩ | ⟨y, l, c, zs, hcs, _⟩
    · exact ⟨none, 0, 0, by simpa using hcs⟩
    · exact ⟨some y, l, c, by simpa using hcs⟩
  simp only [List.cons.injEq, and_true] at e1 e2 e3 e4 e5
  subst e0 e1 e2 e3 e4 e5
  obtain ⟨bs, rfl, row, lc, nil, hd0⟩ := open_bytes f0
  have hcap : cap ≤ 140737488351232 := by
    rcases hd0 with ⟨_, h⟩ | ⟨elems, spare, h, hlen⟩
    · omega
    · have := sized_slice hsz6 (j := 0) (t := 25) (e := 5) (elems := elems) (spare := spare) rfl (by rw [h]; rfl) Tryd.underlying25
      rw [bytes5, hlen] at this
      simp only [reachBytes] at this
      omega
  have bS := bounds_u32 wS
  have bR := bounds_u32 wR
  have bH := bounds_u64 wH
  have bN := bounds_i64 wN
  obtain ⟨S', rfl⟩ : ∃ m : Nat, S = m := ⟨S.toNat, by omega⟩
  obtain ⟨R', rfl⟩ : ∃ m : Nat, R = m := ⟨R.toNat, by omega⟩
  obtain ⟨H', rfl⟩ : ∃ m : Nat, Hh = m := ⟨Hh.toNat, by omega⟩
  clear hA0 hA hargs
  have ht := table hL
  refine (plays_any a bs cap T S' R' H' Nn W ht row nil lc hcap sT (by omega) (by omega) (by omega) (by omega) (by omega)).mono fun e W' ⟨he, bel⟩ => ?_
  subst he
  exact ⟨_, rfl, _, _, _, [], _, [], hW', trodAll_mk1 (shut_bool Tryd.underlying4 _), (trodAll_cons_mk (Below.trod laidOut (by kernel_rfl) (of_decide_eq_true (by kernel_rfl)) k0 bel lt0) trodAll_mk0), rfl, bel.frame _, fun h => by cases h⟩

theorem laid_met (os : Os) : laidMet Tryd.prog Rows.sumPlaysRow.laid ((laidWorld os).forCall (fun _ _ => 0) ⟨#[], #[.agg #[.slice none 0 0, .string ByteArray.empty, .int .u32 0, .int .u32 0, .int .u64 0, .int .i64 0]], []⟩).memory :=
  laidMet_of_run' 8 (by kernel_rfl) (by kernel_rfl)
theorem reads (os : Os) {H : Type} (enc : TypeId × Value → H) : ∃ places, DataW.whole enc Tryd.prog ((laidWorld os).forCall (fun _ _ => 0) ⟨#[], #[.agg #[.slice none 0 0, .string ByteArray.empty, .int .u32 0, .int .u32 0, .int .u64 0, .int .i64 0]], []⟩).memory Tryd.f6.params.toList Rows.sumPlaysSpec.vars false #[Value.agg #[.slice none 0 0, .string ByteArray.empty, .int .u32 0, .int .u32 0, .int .u64 0, .int .i64 0]].toList 8 = some ([.agg [.nil, .lit (.string []), .lit (.int .u32 0), .lit (.int .u32 0), .lit (.int .u64 0), .lit (.int .i64 0)]], [], places) :=
  ⟨[], by kernel_rfl⟩

set_option maxRecDepth 100000 in
theorem lifted (os : Os) (started : os.Started) (H : Type) (enc : TypeId × Value → H) (F : Stop.Interp) :
    ReturnsInHanded {} Tryd.checked os 6 .any ((OpenSpec.ofChange Rows.sumPlaysSpec).preRow enc Tryd.prog Tryd.f6 Rows.sumPlaysRow.domain false Rows.sumPlaysRow.laid) (((OpenSpec.ofChange Rows.sumPlaysSpec).at F).post enc Tryd.prog Tryd.f6 false true false false) := by
  obtain ⟨places, hx⟩ := reads os enc
  refine returnsInHanded_of_row (C := Tryd.checked) (s := OpenSpec.ofChange Rows.sumPlaysSpec) own started (by kernel_rfl) Tryd.func6
    (witness_row_at (enc := enc) (C := Tryd.checked) false (laidWorld os) #[.agg #[.slice none 0 0, .string ByteArray.empty, .int .u32 0, .int .u32 0, .int .u64 0, .int .i64 0]] rfl (by kernel_rfl) (by kernel_rfl) (by kernel_rfl)
      (OpenSpec.preRow_of_cond 8 hx (by kernel_rfl) (fun k hk => by cases hk) (by kernel_rfl) (laid_met os))) ?_
  intro W base args ds gs before hval hW _ _ hsz hL _ _
  exact contract H enc W base args ds gs before hval hW hsz hL

theorem said : Rows.SumPlaysSaid :=
  OpenClaim.holds_of_cond 6 Tryd.f6 rfl rfl rfl rfl rfl rfl rfl ⟨rfl, rfl, rfl, rfl, rfl⟩ rfl rfl rfl rfl rfl (by kernel_rfl) Tryd.func6 (by kernel_rfl)
    (of_decide_eq_true (by kernel_rfl)) (by unfold Func.isWrapper; first | (rw [if_pos (by decide +kernel)]; kernel_rfl) | (rw [if_neg (by decide +kernel)]; exact ⟨rfl, rfl⟩))
    (fun os started H enc _ F => by rw [OpenClaim.pre_eq_preRow]; exact lifted os started H enc F)

theorem plain (f : FuncId) (fn : Func) (hf : Tryd.pinned.checked.prog.funcNamed "rampart/rampartlaw01.SumPlays" = some f) (hfn : Tryd.pinned.checked.prog.funcs[f]? = some fn) :
    false = Tryd.pinned.checked.prog.looks [] ∧ ∀ (j : Nat) t, fn.params[j]? = some t → Tryd.pinned.checked.prog.wantsStandIn t = false := by
  obtain rfl : f = 6 := Option.some.inj ((show Tryd.prog.funcNamed "rampart/rampartlaw01.SumPlays" = some 6 by kernel_rfl).symm.trans hf) |>.symm
  obtain rfl : fn = Tryd.f6 := (Option.some.inj (Tryd.func6.symm.trans hfn)).symm
  refine ⟨by kernel_rfl, fun j t ht => ?_⟩
  rw [Tryd.params6] at ht
  obtain rfl : t = 38 := by simpa using Array.mem_of_getElem? ht
  exact (show Tryd.prog.wantsStandIn 38 = false by kernel_rfl)

theorem card : Rows.SumPlaysCardSaid :=
  Claim7.holds_tied_plain_at .later [] _ _ _ _ said (fun _ h => by cases h) (by kernel_rfl) (fun _ h => by cases h) sumPlays_row_tie rfl ⟨rfl, rfl⟩ (by kernel_rfl) rfl plain (by kernel_rfl)
end Go.Proofs.YtbkfalaicocopaaDoor.sumPlays
namespace Go.Proofs.YtbkfalaicocopaaDoor
theorem sumPlays_holds : Rows.SumPlaysCardSaid := sumPlays.card
#print axioms sumPlays_holds
end Go.Proofs.YtbkfalaicocopaaDoor
