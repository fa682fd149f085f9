/- WriterPlays' arguments in memory. -/
import Derived.Test.YtghnhkhhpeoheaaGreatLL
namespace Go.Proofs.YtghnhkhhpeoheaaGreat
open Go.RowKit Go.Sort Orl
set_option linter.unusedVariables false
set_option linter.unusedSimpArgs false

/-- a call of the law's script, as it lies in memory -/
structure ROp where
  kind : Int
  part : Int
  n : Int
  turn : Bool
  mkd : Int
  mcl : Int
  mreq : Nat
  mid : Nat
  v4 : Option Addr
  n4 : Nat
  c4 : Nat
  v5 : Option Addr
  n5 : Nat
  c5 : Nat
  v6 : Option Addr
  n6 : Nat
  c6 : Nat
  v7 : Option Addr
  n7 : Nat
  c7 : Nat
def rop0 : ROp := ⟨0, 0, 0, false, 0, 0, 0, 0, none, 0, 0, none, 0, 0, none, 0, 0, none, 0, 0⟩
def OE : El ROp := ⟨47, 24, 12, 160, fun r => [.int .i64 r.kind, .int .i64 r.part, .int .i64 r.n, .bool r.turn, .int .i64 r.mkd, .int .i64 r.mcl, .int .u64 (r.mreq : Nat), .int .u64 (r.mid : Nat), .slice r.v4 r.n4 r.c4, .slice r.v5 r.n5 r.c5, .slice r.v6 r.n6 r.c6, .slice r.v7 r.n7 r.c7]⟩
theorem infoO : (Tryz.prog.info? 47).map (fun i => (i.zero, i.size, i.bytes)) = some (some (.agg #[.int .i64 0, .int .i64 0, .int .i64 0, .bool false, .int .i64 0, .int .i64 0, .int .u64 0, .int .u64 0, .slice none 0 0, .slice none 0 0, .slice none 0 0, .slice none 0 0]), 12, 160) := by kernel_rfl
theorem okO : OE.Ok := by
  obtain ⟨i0, hi, hz0, hz1, hz2⟩ := info_parts infoO
  exact ⟨fun _ => rfl, fun x u hu => by simp [OE] at hu; rcases hu with rfl | rfl | rfl | rfl | rfl | rfl | rfl | rfl | rfl | rfl | rfl | rfl <;> rfl, by decide, Tryz.underlying24, i0, _, hi, hz0, hz1, hz2, rfl⟩
structure At12 (w : World) (b off j : Nat) (r : ROp) : Prop where
  c0 : w.cell? ⟨b, off + j * 12, none⟩ = some (.int .i64 r.kind)
  c1 : w.cell? ⟨b, off + j * 12 + 1, none⟩ = some (.int .i64 r.part)
  c2 : w.cell? ⟨b, off + j * 12 + 2, none⟩ = some (.int .i64 r.n)
  c3 : w.cell? ⟨b, off + j * 12 + 3, none⟩ = some (.bool r.turn)
  c4 : w.cell? ⟨b, off + j * 12 + 4, none⟩ = some (.int .i64 r.mkd)
  c5 : w.cell? ⟨b, off + j * 12 + 5, none⟩ = some (.int .i64 r.mcl)
  c6 : w.cell? ⟨b, off + j * 12 + 6, none⟩ = some (.int .u64 (r.mreq : Nat))
  c7 : w.cell? ⟨b, off + j * 12 + 7, none⟩ = some (.int .u64 (r.mid : Nat))
  c8 : w.cell? ⟨b, off + j * 12 + 8, none⟩ = some (.slice r.v4 r.n4 r.c4)
  c9 : w.cell? ⟨b, off + j * 12 + 9, none⟩ = some (.slice r.v5 r.n5 r.c5)
  c10 : w.cell? ⟨b, off + j * 12 + 10, none⟩ = some (.slice r.v6 r.n6 r.c6)
  c11 : w.cell? ⟨b, off + j * 12 + 11, none⟩ = some (.slice r.v7 r.n7 r.c7)
theorem Sl.atO {w : World} {a : Option Addr} {c : Nat} {xs : List ROp} (h : Sl OE w a c xs) {j : Nat} (hj : j < xs.length) : ∃ b off, a = some ⟨b, off, none⟩ ∧ At12 w b off j (xs.getD j rop0) := by
  rcases h.row with e | ⟨b, off, rfl, hc⟩
  · subst e; simp at hj
  · have key : ∀ i, i < 12 → ∀ u, (OE.enc (xs.getD j rop0))[i]? = some u → w.cell? ⟨b, off + j * 12 + i, none⟩ = some u := by
      intro i hi u hu
      rw [Nat.add_assoc]
      refine hc (j * 12 + i) _ ?_
      have := cells_at okO rop0 xs j i hj hi
      rw [show j * 12 + i = j * OE.k + i from rfl, this]
      exact hu
    exact ⟨b, off, rfl, key 0 (by decide) _ rfl, key 1 (by decide) _ rfl, key 2 (by decide) _ rfl, key 3 (by decide) _ rfl, key 4 (by decide) _ rfl, key 5 (by decide) _ rfl, key 6 (by decide) _ rfl, key 7 (by decide) _ rfl, key 8 (by decide) _ rfl, key 9 (by decide) _ rfl, key 10 (by decide) _ rfl, key 11 (by decide) _ rfl⟩
structure FitO (r : ROp) : Prop where
  req : r.mreq < 18446744073709551616
  id : r.mid < 18446744073709551616
end Go.Proofs.YtghnhkhhpeoheaaGreat
