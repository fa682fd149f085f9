import Derived.Test.YtkoaiibjahlnmaaGreatL0
/- Steps that came in. -/
namespace Go.Proofs.YtkoaiibjahlnmaaGreat
open Go.RowKit Go.Maps Go.Sort Orl
set_option linter.unusedVariables false
set_option linter.unusedSimpArgs false

/-- a step that came in -/
structure RV where
  kd : Int
  wr : Int
  ma : Int
  v : Tx
def rv0 : RV := ⟨0, 0, 0, e0⟩
def RE : El RV := ⟨31, 22, 4, 40, fun r => [.int .i64 r.kd, .int .i64 r.wr, .int .i64 r.ma, .string r.v]⟩
theorem infoR : (Tryz.prog.info? 31).map (fun i => (i.zero, i.size, i.bytes)) = some (some (.agg #[.int .i64 0, .int .i64 0, .int .i64 0, .string ⟨#[]⟩]), 4, 40) := by kernel_rfl
theorem okR : RE.Ok := by
  obtain ⟨i0, hi, hz0, hz1, hz2⟩ := info_parts infoR
  exact ⟨fun _ => rfl, fun x u hu => by simp [RE] at hu; rcases hu with rfl | rfl | rfl | rfl <;> rfl, by decide, Tryz.underlying22, i0, _, hi, hz0, hz1, hz2, rfl⟩
structure OkR (r : RV) : Prop where
  kd : I64 r.kd
  wr : I64 r.wr
  ma : I64 r.ma
theorem Sl.atR {w : World} {a : Option Addr} {c : Nat} {xs : List RV} (h : Sl RE w a c xs) {j : Nat} (hj : j < xs.length) : ∃ b off, a = some ⟨b, off, none⟩ ∧ w.cell? ⟨b, off + j * 4, none⟩ = some (.int .i64 (xs.getD j rv0).kd) ∧ w.cell? ⟨b, off + j * 4 + 1, none⟩ = some (.int .i64 (xs.getD j rv0).wr) ∧ w.cell? ⟨b, off + j * 4 + 2, none⟩ = some (.int .i64 (xs.getD j rv0).ma) ∧ w.cell? ⟨b, off + j * 4 + 3, none⟩ = some (.string (xs.getD j rv0).v) := by
  rcases h.row with e | ⟨b, off, rfl, hc⟩
  · subst e; simp at hj
  · refine ⟨b, off, rfl, hc (j * 4) _ ?_, ?_, ?_, ?_⟩
    · have := cells_at okR rv0 xs j 0 hj (by decide)
      simpa [RE] using this
    · rw [Nat.add_assoc]
      refine hc (j * 4 + 1) _ ?_
      have := cells_at okR rv0 xs j 1 hj (by decide)
      simpa [RE] using this
    · rw [Nat.add_assoc]
      refine hc (j * 4 + 2) _ ?_
      have := cells_at okR rv0 xs j 2 hj (by decide)
      simpa [RE] using this
    · rw [Nat.add_assoc]
      refine hc (j * 4 + 3) _ ?_
      have := cells_at okR rv0 xs j 3 hj (by decide)
      simpa [RE] using this
end Go.Proofs.YtkoaiibjahlnmaaGreat
