import Derived.Test.YtpfbbfbghldmjaaB8
namespace Go.Proofs.Ytpfbbfbghldmjaa
open Go.RowKit Go.Sort Orl
set_option linter.unusedVariables false
set_option linter.unusedSimpArgs false

abbrev tE : Tx := { data := #[] }
abbrev tA : Tx := { data := #[97] }
abbrev tB : Tx := { data := #[98] }
abbrev tC : Tx := { data := #[99] }
abbrev t1 : Tx := { data := #[49] }
abbrev t2 : Tx := { data := #[50] }
theorem l_ea : lts tE tA = true := by rw [lts_eq]; decide
theorem l_eb : lts tE tB = true := by rw [lts_eq]; decide
theorem l_ab : lts tA tB = true := by rw [lts_eq]; decide
theorem l_ac : lts tA tC = true := by rw [lts_eq]; decide
theorem l_bc : lts tB tC = true := by rw [lts_eq]; decide
theorem l_ae : lts tA tE = false := asym swoT l_ea
theorem l_be : lts tB tE = false := asym swoT l_eb
theorem l_ba : lts tB tA = false := asym swoT l_ab
theorem l_ca : lts tC tA = false := asym swoT l_ac
theorem l_cb : lts tC tB = false := asym swoT l_bc
theorem l_aa : lts tA tA = false := swoT.irrefl _
theorem l_cc : lts tC tC = false := swoT.irrefl _
theorem l_bb : lts tB tB = false := swoT.irrefl _
theorem isT1 : isT [tB, tE, tA] = [tE, tA, tB] := by
  simp [isT, isort, put, pos, l_ea, l_eb, l_ab, l_ae, l_be, l_ba]
theorem isT2 : isT [tA, tA] = [tA, tA] := by
  simp [isT, isort, put, pos, l_aa]
theorem isT3 : isT [tE, tA, tB] = [tE, tA, tB] := by
  simp [isT, isort, put, pos, l_ea, l_eb, l_ab, l_ae, l_be, l_ba]
theorem isT4 : isT [tB, tA] = [tA, tB] := by
  simp [isT, isort, put, pos, l_ab, l_ba]
theorem isT5 : isT [tA, tB] = [tA, tB] := by
  simp [isT, isort, put, pos, l_ab, l_ba]
theorem val1 : valK [tB, tE, tA] = true := by
  rw [valK_of (by simp) (by simp) (by intro j hj; simp at hj; rcases j with _ | _ | _ | j <;> first | decide | omega), isT1]
  simp [rising, l_ea, l_ab]
theorem val2 : valK [tA, tA] = false := by
  rw [valK_of (by simp) (by simp) (by intro j hj; simp at hj; rcases j with _ | _ | j <;> first | decide | omega), isT2]
  simp [rising, l_aa]
theorem val3 : valK [tE, tA, tB] = true := by
  rw [valK_of (by simp) (by simp) (by intro j hj; simp at hj; rcases j with _ | _ | _ | j <;> first | decide | omega), isT3]
  simp [rising, l_ea, l_ab]
theorem val4 : valP [(tB, t1), (tA, t2)] = true := by
  rw [valP_of (by intro j hj; simp at hj; rcases j with _ | _ | j <;> first | decide | omega)]
  show valK [tB, tA] = true
  rw [valK_of (by simp) (by simp) (by intro j hj; simp at hj; rcases j with _ | _ | j <;> first | decide | omega), isT4]
  simp [rising, l_ab]
theorem val5 : valP [(tA, t2), (tB, t1)] = true := by
  rw [valP_of (by intro j hj; simp at hj; rcases j with _ | _ | j <;> first | decide | omega)]
  show valK [tA, tB] = true
  rw [valK_of (by simp) (by simp) (by intro j hj; simp at hj; rcases j with _ | _ | j <;> first | decide | omega), isT5]
  simp [rising, l_ab]
theorem nrm1 : nrm [(tB, t1), (tA, t2)] = [(tA, t2), (tB, t1)] := by
  simp [nrm, isort, put, pos, ltp, l_ab, l_ba]
theorem rs1 : rising lts [tA, tC] = true := by simp [rising, l_ac]
theorem rs2 : rising lts [tB, tC] = true := by simp [rising, l_bc]
theorem rs3 : rising lts [tE, tA, tB] = true := by simp [rising, l_ea, l_ab]
theorem mg1 : mg lts true true true [tA, tC] [tB, tC] = [tA, tB, tC] := by
  simp [mg_cons, mg_nil1, mg_nil2, opt, l_ab, l_cb, l_bc, l_cc]
theorem mg2 : mg lts false true false [tA, tC] [tB, tC] = [tC] := by
  simp [mg_cons, mg_nil1, mg_nil2, opt, l_ab, l_cb, l_bc, l_cc]
theorem mg3 : mg lts true false false [tA, tC] [tB, tC] = [tA] := by
  simp [mg_cons, mg_nil1, mg_nil2, opt, l_ab, l_cb, l_bc, l_cc]
theorem inn1 : inn [tE, tA, tB] tB = true := (inn_iff _ _).2 (by simp)
theorem inn2 : inn [tE, tA, tB] tC = false := inn_no (by
  simp only [List.mem_cons, not_or, List.not_mem_nil, not_false_eq_true, and_true]
  exact ⟨by decide, by decide, by decide⟩)
theorem litT (w : World) (vs : List Tx) : Sl TE (w.alloc (.cells (vs.map Value.string).toArray 9)) (some ⟨w.heap.size, 0, none⟩) vs.length vs := by
  refine ⟨.inr ⟨w.heap.size, 0, rfl, fun j u hj => ?_⟩, Nat.le_refl _, by simp⟩
  rw [cell_of_blk (blk_new w _)]
  rw [cells_T] at hj
  simpa using hj
theorem litT2 (w : World) (o : Obj) (vs : List Tx) : Sl TE ((w.alloc o).alloc (.cells (vs.map Value.string).toArray 9)) (some ⟨w.heap.size + 1, 0, none⟩) vs.length vs := by
  have := litT (w.alloc o) vs
  have e : (w.alloc o).heap.size = w.heap.size + 1 := by simp
  rwa [e] at this
theorem litP (w : World) (vs : List Pr) : Sl PE (w.alloc (.cells (PE.cells vs).toArray 34)) (some ⟨w.heap.size, 0, none⟩) vs.length vs := by
  refine ⟨.inr ⟨w.heap.size, 0, rfl, fun j u hj => ?_⟩, Nat.le_refl _, by simp⟩
  rw [cell_of_blk (blk_new w _)]
  simpa using hj
theorem fitT (l : List Tx) (h : l.all (fun x => decide (x.size ≤ 100)) = true) : ∀ x ∈ l, x.size ≤ maxLen := by
  intro x hx
  have := List.all_eq_true.1 h x hx
  simp at this
  unfold maxLen; omega
theorem fitP (l : List Pr) (h : l.all (fun x => decide (x.1.size ≤ 100 ∧ x.2.size ≤ 100)) = true) : FitsP l := by
  intro x hx
  have := List.all_eq_true.1 h x hx
  simp at this
  unfold maxLen; omega
end Go.Proofs.Ytpfbbfbghldmjaa
