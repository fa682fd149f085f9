/- The law's mended. -/
import Derived.Test.YtghnhkhhpeoheaaGreatW0
namespace Go.Proofs.YtghnhkhhpeoheaaGreat
open Go.RowKit Go.Sort Orl
set_option linter.unusedVariables false
set_option linter.unusedSimpArgs false

theorem own_oneP (w : World) (x y : Tx) : Sl PE (w.alloc (.cells #[.string x, .string y] 61)) (some ⟨w.heap.size, 0, none⟩) 1 [(x, y)] := by
  refine ⟨.inr ⟨_, 0, rfl, fun j u hj => ?_⟩, by simp, fun e => by cases e⟩
  rw [Nat.zero_add, cell_of_blk (blk_new w _)]
  simpa [El.cells, PE] using hj
/-- is the key there, among the first k? -/
def hasTo (l : List Pr) (k : Nat) (s : Tx) : Bool := hasP (l.take k) s
theorem hasTo_succ (l : List Pr) (k : Nat) (s : Tx) (hk : k < l.length) : hasTo l (k + 1) s = (hasTo l k s || decide ((l.getD k p0).1 = s)) := by
  unfold hasTo hasP
  rw [take_succ_getD l k p0 hk, List.any_append]; simp
theorem hasTo_all (l : List Pr) (s : Tx) : hasTo l l.length s = hasP l s := by unfold hasTo; rw [List.take_length]
theorem cutS_run (k : Tx) (h : 200 < k.size) (hm : k.size ≤ maxLen) (w : World) : (Instr.slice 9 (.string k) none (some (.int .i64 200)) none).run Tryz.prog w = .ok (.string (k.extract 0 200)) w := by
  have h1 : (200 : Int) ≤ (k.size : Int) := by omega
  rw [run_slice_string_h w 9 k Tryz.underlying9 .i64 200 (by omega) h1]
  rfl
/-- forty: no more -/
theorem mend_full (l : List Pr) (i : Nat) (hi : i ≤ l.length) (h : ¬ (mendTo l i).length < 40) : mendTo l i = mendTo l l.length := by
  have key : ∀ d, i + d ≤ l.length → mendTo l (i + d) = mendTo l i := by
    intro d
    induction d with
    | zero => intro _; rfl
    | succ d ih =>
      intro hd
      rw [← Nat.add_assoc, mendTo_succ l (i + d) (by omega), ih (by omega)]
      unfold mendStep
      rw [if_neg (fun hc => h hc.1)]
  have := key (l.length - i) (by omega)
  rw [show i + (l.length - i) = l.length by omega] at this
  exact this.symm
end Go.Proofs.YtghnhkhhpeoheaaGreat
