/- WriterAnyOrder's arguments in memory; its two rounds. -/
import Derived.Test.YtghnhkhhpeoheaaQ2
namespace Go.Proofs.Ytghnhkhhpeoheaa
open Go.RowKit Go.Sort Orl
set_option linter.unusedVariables false
set_option linter.unusedSimpArgs false

def ZI : El Int := ⟨3, 55, 1, 8, fun z => [.int .i64 z]⟩
theorem infoI : (Try.prog.info? 3).map (fun i => (i.zero, i.size, i.bytes)) = some (some (.int .i64 0), 1, 8) := by kernel_rfl
theorem okI : ZI.Ok := by
  obtain ⟨i0, hi, hz0, hz1, hz2⟩ := info_parts infoI
  exact ⟨fun _ => rfl, fun x u hu => by simp [ZI] at hu; rcases hu with rfl; rfl, by decide, Try.underlying55, i0, _, hi, hz0, hz1, hz2, rfl⟩
theorem Sl.atI {w : World} {a : Option Addr} {c : Nat} {xs : List Int} (h : Sl ZI w a c xs) {j : Nat} (hj : j < xs.length) : ∃ b off, a = some ⟨b, off, none⟩ ∧ w.cell? ⟨b, off + j, none⟩ = some (.int .i64 (xs.getD j 0)) := by
  rcases h.row with e | ⟨b, off, rfl, hc⟩
  · subst e; simp at hj
  · refine ⟨b, off, rfl, hc j _ ?_⟩
    have := cells_at okI 0 xs j 0 hj (by decide)
    simpa [ZI] using this
/-- a call of the law's script, as it lies in memory -/
structure ROp where
  kind : Int
  part : Int
  n : Int
  turn : Bool
  mkd : Int
  mcl : Int
  mreq : Nat
  mid : Nat
  v4 : Option Addr
  n4 : Nat
  c4 : Nat
  v5 : Option Addr
  n5 : Nat
  c5 : Nat
  v6 : Option Addr
  n6 : Nat
  c6 : Nat
  v7 : Option Addr
  n7 : Nat
  c7 : Nat
def rop0 : ROp := ⟨0, 0, 0, false, 0, 0, 0, 0, none, 0, 0, none, 0, 0, none, 0, 0, none, 0, 0⟩
def OE : El ROp := ⟨60, 56, 12, 160, fun r => [.int .i64 r.kind, .int .i64 r.part, .int .i64 r.n, .bool r.turn, .int .i64 r.mkd, .int .i64 r.mcl, .int .u64 (r.mreq : Nat), .int .u64 (r.mid : Nat), .slice r.v4 r.n4 r.c4, .slice r.v5 r.n5 r.c5, .slice r.v6 r.n6 r.c6, .slice r.v7 r.n7 r.c7]⟩
theorem infoO : (Try.prog.info? 60).map (fun i => (i.zero, i.size, i.bytes)) = some (some (.agg #[.int .i64 0, .int .i64 0, .int .i64 0, .bool false, .int .i64 0, .int .i64 0, .int .u64 0, .int .u64 0, .slice none 0 0, .slice none 0 0, .slice none 0 0, .slice none 0 0]), 12, 160) := by kernel_rfl
theorem okO : OE.Ok := by
  obtain ⟨i0, hi, hz0, hz1, hz2⟩ := info_parts infoO
  exact ⟨fun _ => rfl, fun x u hu => by simp [OE] at hu; rcases hu with rfl | rfl | rfl | rfl | rfl | rfl | rfl | rfl | rfl | rfl | rfl | rfl <;> rfl, by decide, Try.underlying56, i0, _, hi, hz0, hz1, hz2, rfl⟩
structure At12 (w : World) (b off j : Nat) (r : ROp) : Prop where
  c1 : w.cell? ⟨b, off + j * 12 + 1, none⟩ = some (.int .i64 r.part)
  c2 : w.cell? ⟨b, off + j * 12 + 2, none⟩ = some (.int .i64 r.n)
  c3 : w.cell? ⟨b, off + j * 12 + 3, none⟩ = some (.bool r.turn)
  c4 : w.cell? ⟨b, off + j * 12 + 4, none⟩ = some (.int .i64 r.mkd)
  c5 : w.cell? ⟨b, off + j * 12 + 5, none⟩ = some (.int .i64 r.mcl)
  c6 : w.cell? ⟨b, off + j * 12 + 6, none⟩ = some (.int .u64 (r.mreq : Nat))
  c7 : w.cell? ⟨b, off + j * 12 + 7, none⟩ = some (.int .u64 (r.mid : Nat))
  c8 : w.cell? ⟨b, off + j * 12 + 8, none⟩ = some (.slice r.v4 r.n4 r.c4)
  c9 : w.cell? ⟨b, off + j * 12 + 9, none⟩ = some (.slice r.v5 r.n5 r.c5)
  c10 : w.cell? ⟨b, off + j * 12 + 10, none⟩ = some (.slice r.v6 r.n6 r.c6)
  c11 : w.cell? ⟨b, off + j * 12 + 11, none⟩ = some (.slice r.v7 r.n7 r.c7)
theorem Sl.atO {w : World} {a : Option Addr} {c : Nat} {xs : List ROp} (h : Sl OE w a c xs) {j : Nat} (hj : j < xs.length) : ∃ b off, a = some ⟨b, off, none⟩ ∧ At12 w b off j (xs.getD j rop0) := by
  rcases h.row with e | ⟨b, off, rfl, hc⟩
  · subst e; simp at hj
  · have key : ∀ i, i < 12 → ∀ u, (OE.enc (xs.getD j rop0))[i]? = some u → w.cell? ⟨b, off + j * 12 + i, none⟩ = some u := by
      intro i hi u hu
      rw [Nat.add_assoc]
      refine hc (j * 12 + i) _ ?_
      have := cells_at okO rop0 xs j i hj hi
      rw [show j * 12 + i = j * OE.k + i from rfl, this]
      exact hu
    exact ⟨b, off, rfl, key 1 (by decide) _ rfl, key 2 (by decide) _ rfl, key 3 (by decide) _ rfl, key 4 (by decide) _ rfl, key 5 (by decide) _ rfl, key 6 (by decide) _ rfl, key 7 (by decide) _ rfl, key 8 (by decide) _ rfl, key 9 (by decide) _ rfl, key 10 (by decide) _ rfl, key 11 (by decide) _ rfl⟩
structure FitO (r : ROp) : Prop where
  req : r.mreq < 18446744073709551616
  id : r.mid < 18446744073709551616
/-- a round's beginning, the rounds counted -/
def stR (s : WS) (m : Nat) : Nat → Out
  | 0 => ⟨s, askedS s, m⟩
  | k + 1 => outR (stR s m k).s (stR s m k).m
theorem Rn.rounds {s : WS} {L : Nat} (h : Rn s L) (hr : s.round = 1) (m : Nat) {k : Nat} (hk : k < 2) : Rn (stR s m k).s L ∧ (stR s m k).told = askedS (stR s m k).s := by
  have hcs : k = 0 ∨ k = 1 := by omega
  rcases hcs with rfl | rfl
  · exact ⟨h, rfl⟩
  · have e : stR s m 1 = ⟨askS s m, askedS (askS s m), numS s m⟩ := by show outR s m = _; unfold outR; rw [if_neg (by omega)]
    rw [e]
    exact ⟨⟨h.wf.ask m (by omega), h.len, .inr (by show s.round + 1 = 2; omega), h.ended, by show List.replicate s.ps.length false = _; rw [h.len]⟩, rfl⟩
theorem Rn.rm {s : WS} {m : Nat} (hm : m < 18446744073709551616) : ∀ k, (stR s m k).m < 18446744073709551616
  | 0 => hm
  | k + 1 => outR_m _ _ (Rn.rm hm k)
theorem Rn.last {s : WS} {L : Nat} (h : Rn s L) (hr : s.round = 1) (m : Nat) : (stR s m 2).s.ended = 1 := by
  show (outR (stR s m 1).s (stR s m 1).m).s.ended = 1
  have e : stR s m 1 = ⟨askS s m, askedS (askS s m), numS s m⟩ := by show outR s m = _; unfold outR; rw [if_neg (by omega)]
  rw [e]
  unfold outR
  rw [if_pos (by show s.round + 1 = 2; omega)]
theorem Rn.fitT {s : WS} {L : Nat} (h : Rn s L) (m : Nat) : FitQs (outR s m).told := by
  unfold outR
  split
  · exact ⟨by simp, fun q hq => by cases hq⟩
  · exact (h.wf.ask m (by have := h.round; omega)).fit
theorem rightQ_take (qs : List Qn) (x : Nat) (hx : x < qs.length) (pt k : Int) (rq i : Nat) : rightQ (qs.take (x + 1)) pt k rq i = (rightQ (qs.take x) pt k rq i || (decide (rq = (qs.getD x q0).req) && decide (pt = (qs.getD x q0).part) && decide (i = (qs.getD x q0).id) && decide (k = ansK (qs.getD x q0)))) := by
  unfold rightQ
  rw [take_succ_getD qs x q0 hx, List.any_append]
  simp
end Go.Proofs.Ytghnhkhhpeoheaa
