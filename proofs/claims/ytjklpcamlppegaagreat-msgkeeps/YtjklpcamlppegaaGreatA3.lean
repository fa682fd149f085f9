import Derived.Test.YtjklpcamlppegaaGreatA2
namespace Go.Proofs.YtjklpcamlppegaaGreat
open Go.RowKit Go.Sort Orl
set_option linter.unusedVariables false
set_option linter.unusedSimpArgs false

theorem gtr_of (x s : Tx) (h : lts s x = true) : Op.bytesLess x.toList s.toList = false ∧ (x.toList == s.toList) = false := by
  refine ⟨asym swoT h, ?_⟩
  rw [tx_eq]
  by_cases e : x = s
  · subst e; rw [swoT.irrefl] at h; cases h
  · simp [e]
theorem gtr_not (x s : Tx) (h : lts s x = false) : (Op.bytesLess x.toList s.toList || x.toList == s.toList) = true := by
  rw [tx_eq]
  show (lts x s || decide (x = s)) = true
  cases e : lts x s
  · simp [triT x s e h]
  · rfl

theorem cutT_if {w : World} {b off c : Nat} {xs : List Tx} (I : Nat) (h : Sl TE w (some ⟨b, off, none⟩) c xs) : Sl TE w (if c = I then some ⟨b, off, none⟩ else some ⟨b, off + I, none⟩) (c - I) (xs.drop I) := by
  have hcap := h.cap
  refine ⟨h.row.drop okT I (fun hlt b off e => ?_), by rw [List.length_drop]; omega, ?_⟩
  · cases e
    rw [if_neg (by omega)]
    simp [TE]
  · split <;> intro e <;> cases e
theorem cutP_if {w : World} {b off c : Nat} {xs : List Pr} (I : Nat) (h : Sl PE w (some ⟨b, off, none⟩) c xs) : Sl PE w (if c = I then some ⟨b, off, none⟩ else some ⟨b, off + I * 2, none⟩) (c - I) (xs.drop I) := by
  have hcap := h.cap
  refine ⟨h.row.drop okP I (fun hlt b off e => ?_), by rw [List.length_drop]; omega, ?_⟩
  · cases e
    rw [if_neg (by omega)]
    simp [PE]
  · split <;> intro e <;> cases e
theorem own_one (w : World) (x : Tx) : Sl TE (w.alloc (.cells #[.string x] 9)) (some ⟨w.heap.size, 0, none⟩) 1 [x] := by
  refine ⟨.inr ⟨w.heap.size, 0, rfl, fun j u hj => ?_⟩, by simp, by simp⟩
  rw [cell_of_blk (blk_new w _)]
  simpa [El.cells, TE] using hj

end Go.Proofs.YtjklpcamlppegaaGreat
