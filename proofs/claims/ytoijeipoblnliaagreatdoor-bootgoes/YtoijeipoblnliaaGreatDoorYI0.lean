import Derived.Test.YtoijeipoblnliaaGreatDoorYG0
/- BootGoes: files that grow; three stores side by side. -/
namespace Go.Proofs.YtoijeipoblnliaaGreatDoor
open Go.RowKit Go.Maps Go.Sort Orl Pk
set_option linter.unusedVariables false
set_option linter.unusedSimpArgs false

theorem otS_ref (s : Dk.St) : ∀ i, (otS s i).ref = s.ref
  | 0 => rfl
  | i + 1 => otS_ref s i
theorem tnS_ref (bs : Option (List UInt8)) (g : Nat) (rs : List Rec) (k : Nat) : (tnS bs g rs k).ref = 0 := by cases bs <;> rfl
structure Apd (g : Nat) (bs : Option (List UInt8)) (rs : List Rec) (s : Dk.St) : Prop where
  iv : IV g bs rs s
  on : On s
  ref : s.ref = 0
  log : bsOf (logB g) s = rb rs
  sz : Sz s
section
variable {g : Nat} {bs : Option (List UInt8)} {rs : List Rec} {s : Dk.St}
theorem Apd.next (h : Apd g bs rs s) (hg : (g : Int) ≤ 9223372036854775807) {r : Rec} (hr : Gd r) (hl : (rb (rs ++ [r])).length ≤ 16777216) :
    apd (logB g) r s = (lay1 (logB g) (fl (rb (rs ++ [r]))) s, 0) ∧ Apd g bs (rs ++ [r]) (lay1 (logB g) (fl (rb (rs ++ [r]))) s) := by
  obtain ⟨f, j, hf, _⟩ := h.iv.lg
  refine ⟨?_, ⟨⟨Dk.inc_put h.iv.inc, ?_, ⟨_, 0, find_lay1 _ _ _, by rw [torn_len]; omega, ?_, ?_, Nat.le_refl _⟩⟩, h.on.lay1 _ _, h.ref, bsOf_lay1 _ _ _, fun q hq => ?_⟩⟩
  · rw [apd_on h.iv.inc h.on h.ref (log_good (by omega) hg) (fun e => by rw [hf] at e; cases e) hr.encE, h.log, ← rb_snoc]
  · show Dk.find snapB (lay1 (logB g) _ s).fs = _
    rw [find_lay1_ne (log_ne g).symm]; exact h.iv.sn
  · show nts (rb (rs ++ [r])) = _
    rw [rb_nts]; simp
  · show (rowb (rs ++ [r])).length ≤ (rb (rs ++ [r])).length
    rw [rb_len]; exact Nat.le_refl _
  · rcases Dk.mem_put.1 hq with e | e
    · subst e; rw [szB_log]; exact hl
    · exact h.sz q e.1
theorem Apd.boot {now : Int} (h : Apd g bs rs s) (hb : BsOk now g bs) (hgd : Gds rs) : ∃ s', Good now g bs rs s s' ∧ Apd g bs rs s' := by
  obtain ⟨s', h1, h2⟩ := boot_calm h.iv h.on hb hgd
  exact ⟨s', h1, h1.iv, h2, by rw [h1.calm.ref]; exact h.ref, h1.log, h1.boot.sz h.sz⟩
theorem Held.apd {now : Int} {U W : World} {p q : Nat} {F : Nat → Prop} {N : Nat} (h : Held now g rs U W p q F bs N s) (hr : s.ref = 0) : ∃ s', Good now g bs rs s s' ∧ Apd g bs rs s' := by
  obtain ⟨s', h1, h2, h3⟩ := h.boot
  exact ⟨s', h1, h1.iv, h2, by rw [h1.calm.ref]; exact hr, h1.log, h3⟩
end
theorem Keeps.low {S : Nat → Prop} {w w' : World} (h : Keeps S w w') : Keeps (fun b => S b ∧ b < w.heap.size) w w' :=
  ⟨h.os, h.tape, h.output, h.size, fun k hk hn => h.block k hk (fun hs => hn ⟨hs, hk⟩)⟩
theorem Sto.wide {B : Nat} {w : World} {p : Nat} {s : St} {N : Nat} {P F : Nat → Prop} (h : Sto B w p s N P) (hF : ∀ b, F b → b < B) : Sto B w p s N (fun b => F b ∨ P b) := by
  have hle := h.le
  obtain ⟨T, hi, ho, hB, hP⟩ := h
  refine ⟨T, hi, ho, hB, fun b hb => ?_⟩
  rcases hb with h1 | h1
  · refine ⟨?_, Nat.lt_of_lt_of_le (hF b h1) hle⟩
    cases hT : T b with
    | none => rfl
    | some r => have := hB b (by rw [hT]; simp); have := hF b h1; omega
  · exact hP b h1
theorem Kd.keeps {s : St} {ks : List KV} {o : Option Addr} {n c : Nat} {w0 w w' : World} {S : Nat → Prop} (h : Kd s ks o n c w) (hn : New w0 o) (hx : ∀ x ∈ ks, New w0 x.o) (hk : Keeps S w w') (hS : ∀ b, w0.heap.size ≤ b → b < w.heap.size → ¬ S b) : Kd s ks o n c w' :=
  ⟨h.n, h.own.keeps hk (fun k hi => hS k (hn k hi) (h.own.lt k hi)), fun x h' => (h.key x h').keeps hk (fun k hi => hS k (hx x h' k hi) ((h.key x h').lt k hi)), h.is, h.all, h.inc, h.ok, h.le⟩
/-- two stores side by side, one made behind the other -/
structure Tri (U w5 w6 : World) (F : Nat → Prop) (l1 q q1 : Nat) (st : St) (NW N1 : Nat) (W : World) : Prop where
  want : Sto U.heap.size W q st NW (fun b => F b ∨ (w5.heap.size ≤ b ∧ b < W.heap.size))
  one : Sto w5.heap.size W q1 st N1 (fun b => b = l1 ∨ F b ∨ (w6.heap.size ≤ b ∧ b < W.heap.size))
  a : U.heap.size ≤ w5.heap.size
  b : w5.heap.size ≤ l1 ∧ l1 < w6.heap.size
  c : w6.heap.size ≤ W.heap.size
  d : ∀ b, F b → b < w5.heap.size
theorem Tri.step {U w5 w6 : World} {F : Nat → Prop} {l1 q q1 : Nat} {st : St} {NW N1 : Nat} {W W' : World} {S : Nat → Prop} (h : Tri U w5 w6 F l1 q q1 st NW N1 W) (hk : Keeps S W W') (hS : ∀ b, b < W.heap.size → S b → F b ∨ b = l1 ∨ w6.heap.size ≤ b) : Tri U w5 w6 F l1 q q1 st NW N1 W' := by
  have hb := h.b
  have hc := h.c
  have hsz := hk.size
  refine ⟨(h.want.other hk.low (fun b hb' => .inr ?_)).sub (fun b hb' => ?_), (h.one.other hk.low (fun b hb' => .inr ?_)).sub (fun b hb' => ?_), h.a, h.b, by omega, h.d⟩
  · rcases hS b hb'.2 hb'.1 with h1 | h1 | h1
    · exact .inl h1
    · subst h1; exact .inr ⟨hb.1, hb'.2⟩
    · exact .inr ⟨by omega, hb'.2⟩
  · rcases hb' with h1 | h1
    · exact .inl (.inl h1)
    · rcases Nat.lt_or_ge b W.heap.size with h2 | h2
      · exact .inl (.inr ⟨h1.1, h2⟩)
      · exact .inr ⟨h2, h1.2⟩
  · rcases hS b hb'.2 hb'.1 with h1 | h1 | h1
    · exact .inr (.inl h1)
    · exact .inl h1
    · exact .inr (.inr ⟨h1, hb'.2⟩)
  · rcases hb' with h1 | h1 | h1
    · exact .inl (.inl h1)
    · exact .inl (.inr (.inl h1))
    · rcases Nat.lt_or_ge b W.heap.size with h2 | h2
      · exact .inl (.inr (.inr ⟨h1.1, h2⟩))
      · exact .inr ⟨h2, h1.2⟩
def two : List RW := [⟨0, 11, 7, e0⟩, ⟨2, 11, 0, e0⟩]
theorem two_ok : ∀ x ∈ two, RWok x := by
  intro x hx
  simp only [two, List.mem_cons, List.not_mem_nil, or_false] at hx
  rcases hx with rfl | rfl <;> exact ⟨⟨by decide, by decide⟩, ⟨by decide, by decide⟩, ⟨by decide, by decide⟩⟩
theorem two_sl (w : World) : Sl WE (w.alloc (.cells #[.int .i64 0, .int .i64 11, .int .i64 7, .string ⟨#[]⟩, .int .i64 2, .int .i64 11, .int .i64 0, .string ⟨#[]⟩] 57)) (some ⟨w.heap.size, 0, none⟩) 2 two := by
  refine ⟨.inr ⟨_, 0, rfl, fun j u hj => ?_⟩, by simp [two], fun e => by cases e⟩
  rw [Nat.zero_add, cell_of_blk (blk_new w _)]
  simpa [El.cells, WE, two, e0] using hj
end Go.Proofs.YtoijeipoblnliaaGreatDoor
