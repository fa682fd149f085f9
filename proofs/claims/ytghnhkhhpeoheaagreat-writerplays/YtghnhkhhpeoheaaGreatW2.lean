/- A writer and its counter, side by side with other things; alive, begun. -/
import Derived.Test.YtghnhkhhpeoheaaGreatWC
import Derived.Test.YtghnhkhhpeoheaaGreatW1
namespace Go.Proofs.YtghnhkhhpeoheaaGreat
open Go.RowKit Go.Sort Orl
set_option linter.unusedVariables false
set_option linter.unusedSimpArgs false

/-- a writer with its counter; all its blocks are as P says -/
structure Wc (w0 w : World) (p cp : Nat) (s : WS) (m : Nat) (F : Nat → Prop) : Prop where
  is : IsWr w p cp F s
  wf : WfS s
  ct : IsCt w cp m
  lt : m < 18446744073709551616
  cF : ¬ F cp
  new : ∀ i, (F i ∨ i = cp) → w0.heap.size ≤ i
  kp : Keeps no w0 w
theorem num_lt (s : WS) (m : Nat) : numS s m < 18446744073709551616 := w64_lt _
theorem begin_m (s : WS) (m : Nat) (h : m < 18446744073709551616) : (beginS s m).m < 18446744073709551616 := by
  unfold beginS; split
  · exact num_lt s m
  · exact h
theorem recv_m (s : WS) (m : Nat) (part k : Int) (req id : Nat) (h : m < 18446744073709551616) : (recvS s m part k req id).m < 18446744073709551616 := by
  unfold recvS
  split
  · exact h
  · split
    · exact h
    · unfold doneS
      split
      · split
        · exact h
        · exact num_lt s m
      · exact h
/-- behind a call -/
theorem Wc.tell {w0 w w' : World} {p cp : Nat} {s : WS} {m : Nat} {F G : Nat → Prop} {out : Out} {o : Option Addr} {n c : Nat} {rs : List RQ} (h : Wc w0 w p cp s m F) (t : Tell IsWr w p cp F out o n c rs G w') (hw : WfS out.s) (hm : out.m < 18446744073709551616) : Wc w0 w' p cp out.s out.m G := by
  have hlt := lt_of_block h.ct
  refine ⟨t.is, hw, t.ct, hm, ?_, ?_, h.kp.then t.kp (fun i hi => .inr (h.new i hi))⟩
  · intro hg
    rcases t.foot cp hg with h1 | h1
    · exact h.cF h1
    · omega
  · rintro i (hi | hi)
    · rcases t.foot i hi with h1 | h1
      · exact h.new i (.inl h1)
      · exact Nat.le_trans h.kp.size h1
    · exact h.new i (.inr hi)
theorem Wc.keeps {S : Nat → Prop} {w0 w w' : World} {p cp : Nat} {s : WS} {m : Nat} {F : Nat → Prop} (h : Wc w0 w p cp s m F) (k : Keeps S w w') (hs : ∀ i, (F i ∨ i = cp) → ¬ S i) (h0 : ∀ i, S i → w0.heap.size ≤ i) : Wc w0 w' p cp s m F :=
  ⟨h.is.keeps k (fun i hi => hs i (.inl hi)), h.wf, h.ct.keeps k (hs cp (.inr rfl)), h.lt, h.cF, h.new, h.kp.then k (fun i hi => .inr (h0 i hi))⟩
theorem Wc.keepsN {w0 w w' : World} {p cp : Nat} {s : WS} {m : Nat} {F : Nat → Prop} (h : Wc w0 w p cp s m F) (k : Keeps no w w') : Wc w0 w' p cp s m F := h.keeps k (fun _ _ => id) (fun _ h => h.elim)
theorem Wc.give {w0 w w' : World} {p cp : Nat} {s : WS} {m : Nat} {F : Nat → Prop} (h : Wc w0 w p cp s m F) (h1 : IsWr w' p cp F (giveS s)) (k : Keeps F w w') : Wc w0 w' p cp (giveS s) m F :=
  ⟨h1, h.wf.give, h.ct.keeps k h.cF, h.lt, h.cF, h.new, h.kp.then k (fun i hi => .inr (h.new i (.inl hi)))⟩
/-- a list that was told stays, whatever the writer does -/
theorem Tq.tell {w w' : World} {p cp : Nat} {F G : Nat → Prop} {out : Out} {o o1 : Option Addr} {n c c1 : Nat} {rs r1 : List RQ} {qs : List Qn} (h : Tq w o1 c1 r1 qs) (hF : ∀ i, TB o1 r1 qs.length i → ¬ (F i ∨ i = cp)) (t : Tell IsWr w p cp F out o n c rs G w') : Tq w' o1 c1 r1 qs ∧ ∀ i, TB o1 r1 qs.length i → ¬ (G i ∨ i = cp) := by
  refine ⟨h.keeps t.kp hF, fun i hi hg => ?_⟩
  rcases hg with hg | hg
  · rcases t.foot i hg with h1 | h1
    · exact hF i hi (.inl h1)
    · have := h.lt i hi; omega
  · exact hF i hi (.inr hg)
end Go.Proofs.YtghnhkhhpeoheaaGreat
