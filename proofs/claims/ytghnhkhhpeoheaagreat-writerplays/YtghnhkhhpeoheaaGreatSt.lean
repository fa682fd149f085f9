/- Both writers side by side. -/
import Derived.Test.YtghnhkhhpeoheaaGreatQ3
import Derived.Test.YtghnhkhhpeoheaaGreatW4
namespace Go.Proofs.YtghnhkhhpeoheaaGreat
open Go.RowKit Go.Sort Orl
set_option linter.unusedVariables false
set_option linter.unusedSimpArgs false

theorem Rd.keeps {S : Nat → Prop} {w w' : World} {p : Nat} {F : Nat → Prop} {s : WS} {m : Nat} (h : Rd w p F s m) (k : Keeps S w w') (hs : ∀ i, F i → ¬ S i) : Rd w' p F s m := by
  obtain ⟨oP, cP, gs, oK, cK, oA, cA, rs, oD, cD, hl⟩ := h
  exact ⟨oP, cP, gs, oK, cK, oA, cA, rs, oD, cD, hl.keeps k hs⟩
theorem Rd.lt {w : World} {p : Nat} {F : Nat → Prop} {s : WS} {m : Nat} (h : Rd w p F s m) : ∀ i, F i → i < w.heap.size := by
  obtain ⟨oP, cP, gs, oK, cK, oA, cA, rs, oD, cD, hl⟩ := h
  exact hl.lt
theorem Rd.num {w : World} {p : Nat} {F : Nat → Prop} {s : WS} {m : Nat} (h : Rd w p F s m) : w.cell? ⟨p, 7, none⟩ = some (.int .u64 (m : Nat)) := by
  obtain ⟨oP, cP, gs, oK, cK, oA, cA, rs, oD, cD, hl⟩ := h
  rw [cell_of_blk hl.blk]; rfl
theorem IsCt.cell {w : World} {cp m : Nat} (h : IsCt w cp m) : w.cell? ⟨cp, 0, none⟩ = some (.int .u64 (m : Nat)) := by
  rw [cell_of_blk h]; rfl
theorem IsCt.lt {w : World} {cp m : Nat} (h : IsCt w cp m) : cp < w.heap.size := World.block_lt_of_cell? w _ h.cell
/-- a writer, the document's writer, the questions told last -/
structure St (w0 w : World) (cp p q : Nat) (Fp Fd : Nat → Prop) (s : WS) (m : Nat) (lo : Option Addr) (lc : Nat) (lrs : List RQ) (lqs : List Qn) : Prop where
  wr : IsWr w p cp Fp s
  rd : Rd w q Fd s m
  ct : IsCt w cp m
  sep : ∀ i, Fp i → ¬ Fd i
  cpP : ¬ Fp cp
  cpD : ¬ Fd cp
  wf : WfS s
  hm : m < 18446744073709551616
  last : Tq w lo lc lrs lqs
  la : ∀ i, TB lo lrs lqs.length i → ¬ Fp i ∧ ¬ Fd i ∧ ¬ i = cp
  fit : FitQs lqs
  kp : Keeps no w0 w
  nP : ∀ i, Fp i → w0.heap.size ≤ i
  nD : ∀ i, Fd i → w0.heap.size ≤ i
  nC : w0.heap.size ≤ cp
section
variable {w0 w w1 w2 : World} {cp p q : Nat} {Fp Fd : Nat → Prop} {s : WS} {m : Nat} {lo : Option Addr} {lc : Nat} {lrs : List RQ} {lqs : List Qn}
theorem St.keepsN (h : St w0 w cp p q Fp Fd s m lo lc lrs lqs) (k : Keeps no w w1) : St w0 w1 cp p q Fp Fd s m lo lc lrs lqs :=
  ⟨h.wr.keeps k (fun _ _ h => h), h.rd.keeps k (fun _ _ h => h), h.ct.keeps k (fun h => h), h.sep, h.cpP, h.cpD, h.wf, h.hm, h.last.keepsN k, h.la, h.fit, h.kp.trans k, h.nP, h.nD, h.nC⟩
theorem St.mid (h : St w0 w cp p q Fp Fd s m lo lc lrs lqs) {out : Out} {o : Option Addr} {n c : Nat} {rs : List RQ} {G : Nat → Prop} (t : Tell IsWr w p cp Fp out o n c rs G w1) : Rd w1 q Fd s m :=
  h.rd.keeps t.kp (fun i hi hs => by rcases hs with e | e; exact h.sep i e hi; exact h.cpD (e ▸ hi))
theorem St.two (h : St w0 w cp p q Fp Fd s m lo lc lrs lqs) {out : Out} {o : Option Addr} {n c : Nat} {rs : List RQ} {G : Nat → Prop} (t : Tell IsWr w p cp Fp out o n c rs G w1) {o' : Option Addr} {n' c' : Nat} {rs' : List RQ} {G' : Nat → Prop} (r : RTell w1 q Fd out o' n' c' rs' G' w2) (hwf : WfS out.s) (hm : out.m < 18446744073709551616) :
    St w0 w2 cp p q G G' out.s out.m lo lc lrs lqs ∧ Tq w2 o c rs out.told ∧ Tq w2 o' c' rs' out.told ∧ ∀ i, TB o' rs' out.told.length i → ¬ G i ∧ ¬ G' i ∧ ¬ i = cp := by
  have ltD := h.rd.lt
  have ltC := h.ct.lt
  have ltL := h.last.lt
  have ltG := t.is.lt
  have sz1 := t.kp.size
  have gD : ∀ i, G i → ¬ Fd i := fun i hi hd => by
    rcases t.foot i hi with h1 | h1
    · exact h.sep i h1 hd
    · have := ltD i hd; omega
  have gc : ¬ G cp := fun hg => by
    rcases t.foot cp hg with h1 | h1
    · exact h.cpP h1
    · omega
  have gc' : ¬ G' cp := fun hg => by
    rcases r.foot cp hg with h1 | h1
    · exact h.cpD h1
    · omega
  refine ⟨⟨t.is.keeps r.kp gD, r.is, t.ct.keeps r.kp h.cpD, fun i hi hi' => ?_, gc, gc', hwf, hm, (h.last.keeps t.kp (fun i hi hs => ?_)).keeps r.kp (fun i hi => (h.la i hi).2.1), fun i hi => ⟨fun hg => ?_, fun hg => ?_, (h.la i hi).2.2⟩, h.fit, (h.kp.then t.kp (fun i hi => .inr ?_)).then r.kp (fun i hi => .inr (h.nD i hi)), fun i hi => ?_, fun i hi => ?_, h.nC⟩, t.tq.keeps r.kp (fun i hi hd => ?_), r.tq, fun i hi => ⟨fun hg => ?_, r.apart i hi, fun e => ?_⟩⟩
  · rcases r.foot i hi' with h1 | h1
    · exact gD i hi h1
    · have := ltG i hi; omega
  · rcases hs with e | e
    · exact (h.la i hi).1 e
    · exact (h.la i hi).2.2 e
  · rcases t.foot i hg with h1 | h1
    · exact (h.la i hi).1 h1
    · have := ltL i hi; omega
  · rcases r.foot i hg with h1 | h1
    · exact (h.la i hi).2.1 h1
    · have := ltL i hi; omega
  · rcases hi with e | e
    · exact h.nP i e
    · rw [e]; exact h.nC
  · rcases t.foot i hi with h1 | h1
    · exact h.nP i h1
    · exact Nat.le_trans h.kp.size h1
  · rcases r.foot i hi with h1 | h1
    · exact h.nD i h1
    · exact Nat.le_trans h.kp.size (Nat.le_trans sz1 h1)
  · have := t.new i hi
    have := ltD i hd
    omega
  · have := r.new i hi
    have := ltG i hg
    omega
  · have := r.new i hi
    omega
theorem St.newLast (h : St w0 w cp p q Fp Fd s m lo lc lrs lqs) {o : Option Addr} {c : Nat} {rs : List RQ} {qs : List Qn} (ht : Tq w o c rs qs) (ha : ∀ i, TB o rs qs.length i → ¬ Fp i ∧ ¬ Fd i ∧ ¬ i = cp) (hf : FitQs qs) : St w0 w cp p q Fp Fd s m o c rs qs :=
  ⟨h.wr, h.rd, h.ct, h.sep, h.cpP, h.cpD, h.wf, h.hm, ht, ha, hf, h.kp, h.nP, h.nD, h.nC⟩
theorem St.give (h : St w0 w cp p q Fp Fd s m lo lc lrs lqs) (hw : IsWr w1 p cp Fp (giveS s)) (k : Keeps Fp w w1) : Rd w1 q Fd s m ∧ ∀ w2, Rd w2 q Fd (giveS s) m → Keeps Fd w1 w2 → St w0 w2 cp p q Fp Fd (giveS s) m lo lc lrs lqs := by
  refine ⟨h.rd.keeps k (fun i hi hs => h.sep i hs hi), fun w2 hr k2 => ⟨hw.keeps k2 h.sep, hr, (h.ct.keeps k h.cpP).keeps k2 h.cpD, h.sep, h.cpP, h.cpD, h.wf.give, h.hm, (h.last.keeps k (fun i hi => (h.la i hi).1)).keeps k2 (fun i hi => (h.la i hi).2.1), h.la, h.fit, (h.kp.then k (fun i hi => .inr (h.nP i hi))).then k2 (fun i hi => .inr (h.nD i hi)), h.nP, h.nD, h.nC⟩⟩
end
end Go.Proofs.YtghnhkhhpeoheaaGreat
