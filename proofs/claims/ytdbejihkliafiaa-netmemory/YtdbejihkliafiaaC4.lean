/- The net's leave: slices.Delete in place, or the first ones moved up. -/
import Derived.Test.YtdbejihkliafiaaC3
namespace Go.Proofs.Ytdbejihkliafiaa
open Go.RowKit Go.Sort
set_option linter.unusedVariables false
set_option linter.unusedSimpArgs false

def z4 : List Value := [.int .i64 0, .int .i64 0, .int .i64 0, .string ⟨#[]⟩]
theorem lenU (xs : List Fr) : (UE.cells xs).length = xs.length * 4 := cells_length okU xs
/-- one out: those behind it moved down, the last one's cells zeroed -/
theorem win_down {w : World} {g off c k : Nat} {xs : List Fr} (h : Win UE w (some ⟨g, off, none⟩) c xs) (hk : k < xs.length) :
    Win UE ((w.setCells g (off + k * 4) (UE.cells (xs.drop (k + 1)))).setCells g (off + (xs.length - 1) * 4) z4) (some ⟨g, off, none⟩) c (xs.eraseIdx k) := by
  have hlx := lenU xs
  have hld := lenU (xs.drop (k + 1))
  have hlt := lenU (xs.take k)
  rw [List.length_drop] at hld
  rw [List.length_take, Nat.min_eq_left (by omega)] at hlt
  rcases h.2 with ⟨e, _⟩ | ⟨g', off', cur, e, hg, hcs, hcm, hce⟩
  · cases e
  · cases e
    have hc1 := h.1
    obtain ⟨c1, a1, a2, a3⟩ := blk_setCells (UE.cells (xs.drop (k + 1))) (off + k * 4) hg
    obtain ⟨c2, b1, b2, b3⟩ := blk_setCells z4 (off + (xs.length - 1) * 4) a1
    have hz : z4.length = 4 := rfl
    have hk4 : off + c * 4 ≤ cur.size := hcs
    refine ⟨by rw [len_erase _ _ hk]; omega, .inr ⟨g, off, c2, rfl, b1, by rw [b2, a2]; exact hcs, hcm, fun j u hj => ?_⟩⟩
    rw [List.eraseIdx_eq_take_drop_succ, cells_append] at hj
    have hjl := (List.getElem?_eq_some_iff.1 hj).1
    rw [List.length_append, hlt, hld] at hjl
    rw [b3, if_neg (by omega), a3]
    by_cases hjk : j < k * 4
    · rw [if_neg (by omega)]
      rw [List.getElem?_append_left (by omega)] at hj
      refine hce j u ?_
      have e : UE.cells xs = UE.cells (xs.take k) ++ UE.cells (xs.drop k) := by rw [← cells_append, List.take_append_drop]
      rw [e, List.getElem?_append_left (by omega)]
      exact hj
    · rw [List.getElem?_append_right (by omega)] at hj
      rw [if_pos (by omega), ← hj, hlt, show off + j - (off + k * 4) = j - k * 4 by omega]
/-- one out: those ahead of it moved up, the first one's cells zeroed and left behind -/
theorem win_up {w : World} {g off c k : Nat} {xs : List Fr} (h : Win UE w (some ⟨g, off, none⟩) c xs) (hk : k + 1 < xs.length) :
    Win UE ((w.setCells g (off + 4) (UE.cells (xs.take k))).setCells g off z4) (some ⟨g, off + 4, none⟩) (c - 1) (xs.eraseIdx k) := by
  have hlx := lenU xs
  have hlt := lenU (xs.take k)
  rw [List.length_take, Nat.min_eq_left (by omega)] at hlt
  have hld := lenU (xs.drop (k + 1))
  rw [List.length_drop] at hld
  rcases h.2 with ⟨e, _⟩ | ⟨g', off', cur, e, hg, hcs, hcm, hce⟩
  · cases e
  · cases e
    have hc1 := h.1
    obtain ⟨c1, a1, a2, a3⟩ := blk_setCells (UE.cells (xs.take k)) (off + 4) hg
    obtain ⟨c2, b1, b2, b3⟩ := blk_setCells z4 off a1
    have hz : z4.length = 4 := rfl
    have hk4 : off + c * 4 ≤ cur.size := hcs
    refine ⟨by rw [len_erase _ _ (by omega)]; omega, .inr ⟨g, off + 4, c2, rfl, b1, by rw [b2, a2]; show off + 4 + (c - 1) * 4 ≤ _; omega, by omega, fun j u hj => ?_⟩⟩
    rw [List.eraseIdx_eq_take_drop_succ, cells_append] at hj
    have hjl := (List.getElem?_eq_some_iff.1 hj).1
    rw [List.length_append, hlt, hld] at hjl
    rw [b3, if_neg (by omega), a3]
    by_cases hjk : j < k * 4
    · rw [List.getElem?_append_left (by omega)] at hj
      rw [if_pos (by omega), ← hj, show off + 4 + j - (off + 4) = j by omega]
    · rw [List.getElem?_append_right (by omega), hlt] at hj
      rw [if_neg (by omega), show off + 4 + j = off + (j + 4) by omega]
      refine hce (j + 4) u ?_
      have e : UE.cells xs = UE.cells (xs.take (k + 1)) ++ UE.cells (xs.drop (k + 1)) := by rw [← cells_append, List.take_append_drop]
      have hl2 := lenU (xs.take (k + 1))
      rw [List.length_take, Nat.min_eq_left (by omega)] at hl2
      rw [e, List.getElem?_append_right (by omega), hl2, ← hj, show j + 4 - (k + 1) * 4 = j - k * 4 by omega]
/-- copy(d, s) of elements of any number of cells -/
theorem run_copyK (w : World) (t ty e : TypeId) (i : TypeInfo) (hu : Try.prog.underlying t = some (.slice e)) (hi : Try.prog.info? e = some i) (b o dLen dCap : Nat) (a : Addr) (sLen sCap m : Nat) (cs : List Value) (hm : Nat.min sLen dLen = m) (hn : cs.length = m * i.size)
    (hsrc : ∀ j v, cs[j]? = some v → w.cell? (a.add j) = some v) (hc : ∀ j, j < cs.length → (w.cell? ⟨b, o + j, none⟩).isSome = true) (hf : ∀ j, j < cs.length → w.frozen? ⟨b, o + j, none⟩ = false) (h1 : ∀ v ∈ cs, v.oneCell' = true) :
    (Builtin.copy_ #[t, t] ty #[.slice (some ⟨b, o, none⟩) dLen dCap, .slice (some a) sLen sCap]).run Try.prog w = .ok (goInt m) (w.setCells b o cs) := by
  have hl := run_firstCells_some (P := Try.prog) w i.size m a sLen sCap cs hn hsrc
  have hst := run_storeCells_cells (P := Try.prog) b o cs 0 w (by simpa using hc) (by simpa using hf) h1
  simp only [Nat.add_zero] at hst
  simp [Builtin.copy_, run_underlying hu, Builtin.lenOf, sizeOf, typeInfo, hi, hm, hl, hst]
theorem step_appRun {ops : Array Oper} {o : Oper} {a : Act} {w : World} {K : Act → World → Prop} {Q : Exit → Act → World → Prop} {Ep : Prop}
    (hg : o.guard = none) (d x : Operand) (dT sT : TypeId) (hop : o.op = Op.call { callee := Callee.builtin .append, args := #[d, x], argTypes := #[dT, sT] })
    (v u : Value) (hd : a.eval d = v) (hx : a.eval x = u) {v' : Value} {w' : World} (hr : (Builtin.append_ #[dT, sT] o.type #[v, u]).run Try.prog w = .ok v' w') (hK : K (a.put o.dst v') w') :
    if Region.wanted o (yielded ops a.tmps) = true then Oper.wp Try.prog o a w K Q else Ep := by
  have hw : Region.wanted o (yielded ops a.tmps) = true := by simp [Region.wanted, hg]
  rw [if_pos hw]
  unfold Oper.wp execOp
  simp only [hop, resolve, invoke, builtin, Sem.run_bind, Sem.run_pure, Result.andThen_ok, List.map_toArray, List.map_cons, List.map_nil, hd, hx, hr]
  exact hK
theorem step_copyRun {ops : Array Oper} {o : Oper} {a : Act} {w : World} {K : Act → World → Prop} {Q : Exit → Act → World → Prop} {Ep : Prop}
    (hg : o.guard = none) (d x : Operand) (dT sT : TypeId) (hop : o.op = Op.call { callee := Callee.builtin .copy, args := #[d, x], argTypes := #[dT, sT] })
    (v u : Value) (hd : a.eval d = v) (hx : a.eval x = u) {v' : Value} {w' : World} (hr : (Builtin.copy_ #[dT, sT] o.type #[v, u]).run Try.prog w = .ok v' w') (hK : K (a.put o.dst v') w') :
    if Region.wanted o (yielded ops a.tmps) = true then Oper.wp Try.prog o a w K Q else Ep := by
  have hw : Region.wanted o (yielded ops a.tmps) = true := by simp [Region.wanted, hg]
  rw [if_pos hw]
  unfold Oper.wp execOp
  simp only [hop, resolve, invoke, builtin, Sem.run_bind, Sem.run_pure, Result.andThen_ok, List.map_toArray, List.map_cons, List.map_nil, hd, hx, hr]
  exact hK
end Go.Proofs.Ytdbejihkliafiaa
