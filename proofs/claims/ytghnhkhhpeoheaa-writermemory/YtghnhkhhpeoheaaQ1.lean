/- Two writers side by side, lists that they told, a list of marks. -/
import Derived.Test.YtghnhkhhpeoheaaQ0
namespace Go.Proofs.Ytghnhkhhpeoheaa
open Go.RowKit Go.Sort Orl
set_option linter.unusedVariables false
set_option linter.unusedSimpArgs false

def BE : El Bool := ⟨4, 58, 1, 1, fun b => [.bool b]⟩
theorem infoB : (Try.prog.info? 4).map (fun i => (i.zero, i.size, i.bytes)) = some (some (.bool false), 1, 1) := by kernel_rfl
theorem okB : BE.Ok := by
  obtain ⟨i0, hi, hz0, hz1, hz2⟩ := info_parts infoB
  exact ⟨fun _ => rfl, fun x u hu => by simp [BE] at hu; rcases hu with rfl; rfl, by decide, Try.underlying58, i0, _, hi, hz0, hz1, hz2, rfl⟩
theorem Own.atB {w : World} {a : Option Addr} {c : Nat} {xs : List Bool} (h : Own BE w a c xs) {j : Nat} (hj : j < xs.length) : ∃ b, a = some ⟨b, 0, none⟩ ∧ (∀ i, w.frozen? ⟨b, i, none⟩ = false) ∧ w.cell? ⟨b, j, none⟩ = some (.bool (xs.getD j true)) ∧ Own BE (w.setCell ⟨b, j, none⟩ (.bool true)) a c (xs.set j true) ∧ Keeps (inO a) w (w.setCell ⟨b, j, none⟩ (.bool true)) := by
  obtain ⟨g, e, hf, h1, h2⟩ := h.store1 okB true j hj 0 (by decide) true (.bool true) rfl
  have e1 : j * BE.k + 0 = j := by show j * 1 + 0 = j; omega
  rw [e1] at h1 h2
  refine ⟨g, e, hf, ?_, h1, h2⟩
  rcases h.row with e2 | ⟨b, off, e2, hc⟩
  · rw [e2] at hj; simp at hj
  · rw [e] at e2; cases e2
    have := hc j _ (by
      have := cells_at okB true xs j 0 hj (by decide)
      rw [e1] at this
      rw [this]; rfl)
    rwa [Nat.zero_add] at this
structure Two (w0 w : World) (p cp : Nat) (s : WS) (m : Nat) (F : Nat → Prop) (p2 cp2 : Nat) (s2 : WS) (m2 : Nat) (F2 X : Nat → Prop) : Prop where
  a : Wc w0 w p cp s m F
  b : Wc w0 w p2 cp2 s2 m2 F2
  ab : ∀ i, (F i ∨ i = cp) → ¬ (F2 i ∨ i = cp2)
  xlt : ∀ i, X i → i < w.heap.size
  xa : ∀ i, X i → ¬ (F i ∨ i = cp)
  xb : ∀ i, X i → ¬ (F2 i ∨ i = cp2)
  x0 : ∀ i, X i → w0.heap.size ≤ i
theorem Two.swap {w0 w : World} {p cp : Nat} {s : WS} {m : Nat} {F : Nat → Prop} {p2 cp2 : Nat} {s2 : WS} {m2 : Nat} {F2 X : Nat → Prop} (h : Two w0 w p cp s m F p2 cp2 s2 m2 F2 X) : Two w0 w p2 cp2 s2 m2 F2 p cp s m F X := ⟨h.b, h.a, fun i h1 h2 => h.ab i h2 h1, h.xlt, h.xb, h.xa, h.x0⟩
theorem Two.keepsN {w0 w w' : World} {p cp : Nat} {s : WS} {m : Nat} {F : Nat → Prop} {p2 cp2 : Nat} {s2 : WS} {m2 : Nat} {F2 X : Nat → Prop} (h : Two w0 w p cp s m F p2 cp2 s2 m2 F2 X) (k : Keeps no w w') : Two w0 w' p cp s m F p2 cp2 s2 m2 F2 X := ⟨h.a.keepsN k, h.b.keepsN k, h.ab, fun i hi => Nat.lt_of_lt_of_le (h.xlt i hi) k.size, h.xa, h.xb, h.x0⟩
theorem Wc.ltF {w0 w : World} {p cp : Nat} {s : WS} {m : Nat} {F : Nat → Prop} (h : Wc w0 w p cp s m F) : ∀ i, (F i ∨ i = cp) → i < w.heap.size := by
  rintro i (hi | rfl)
  · exact h.is.lt i hi
  · exact lt_of_block h.ct
theorem Two.tell {w0 w w' : World} {p cp : Nat} {s : WS} {m : Nat} {F G : Nat → Prop} {p2 cp2 : Nat} {s2 : WS} {m2 : Nat} {F2 X : Nat → Prop} {out : Out} {o : Option Addr} {n c : Nat} {rs : List RQ} (h : Two w0 w p cp s m F p2 cp2 s2 m2 F2 X) (t : Tell IsWr w p cp F out o n c rs G w') (hw : WfS out.s) (hm : out.m < 18446744073709551616) : Two w0 w' p cp out.s out.m G p2 cp2 s2 m2 F2 (fun i => X i ∨ TB o rs out.told.length i) := by
  have hcp := lt_of_block h.a.ct
  refine ⟨h.a.tell t hw hm, h.b.keeps t.kp (fun i h1 h2 => h.ab i h2 h1) (fun i hi => h.a.new i hi), ?_, ?_, ?_, ?_, ?_⟩
  · rintro i (hi | rfl) h2
    · rcases t.foot i hi with h3 | h3
      · exact h.ab i (.inl h3) h2
      · have := h.b.ltF i h2; omega
    · exact h.ab _ (.inr rfl) h2
  · rintro i (hi | hi)
    · exact Nat.lt_of_lt_of_le (h.xlt i hi) t.kp.size
    · exact t.tq.lt i hi
  · rintro i (hi | hi) (h2 | h2)
    · rcases t.foot i h2 with h3 | h3
      · exact h.xa i hi (.inl h3)
      · have := h.xlt i hi; omega
    · exact h.xa i hi (.inr h2)
    · exact t.apart i hi h2
    · have := t.new i hi; omega
  · rintro i (hi | hi) h2
    · exact h.xb i hi h2
    · have := t.new i hi
      have := h.b.ltF i h2
      omega
  · rintro i (hi | hi)
    · exact h.x0 i hi
    · exact Nat.le_trans h.a.kp.size (t.new i hi)
/-- two writers, the questions that are answered, what either told last, the marks -/
structure Ab (w0 w : World) (p cp : Nat) (sa : WS) (ma : Nat) (p2 cp2 : Nat) (sb : WS) (mb : Nat) (oq : Option Addr) (cq : Nat) (rs : List RQ) (qs : List Qn) (ot : Option Addr) (ct : Nat) (qt : List Qn) (om : Option Addr) (cm : Nat) (qm : List Qn) (od : Option Addr) (cd : Nat) (D : List Bool) : Prop where
  ex : ∃ F F2 X rt rm, Two w0 w p cp sa ma F p2 cp2 sb mb F2 X ∧ (Tq w oq cq rs qs ∧ ∀ i, TB oq rs qs.length i → X i) ∧ (Tq w ot ct rt qt ∧ ∀ i, TB ot rt qt.length i → X i) ∧ (Tq w om cm rm qm ∧ ∀ i, TB om rm qm.length i → X i) ∧ Own BE w od cd D ∧ ∀ i, inO od i → X i
variable {w0 w w' : World} {p cp : Nat} {sa : WS} {ma : Nat} {p2 cp2 : Nat} {sb : WS} {mb : Nat} {oq : Option Addr} {cq : Nat} {rs : List RQ} {qs : List Qn} {ot : Option Addr} {ct : Nat} {qt : List Qn} {om : Option Addr} {cm : Nat} {qm : List Qn} {od : Option Addr} {cd : Nat} {D : List Bool}
theorem Ab.keepsN (h : Ab w0 w p cp sa ma p2 cp2 sb mb oq cq rs qs ot ct qt om cm qm od cd D) (k : Keeps no w w') : Ab w0 w' p cp sa ma p2 cp2 sb mb oq cq rs qs ot ct qt om cm qm od cd D := by
  obtain ⟨F, F2, X, rt, rm, h1, h2, h3, h4, h5, h6⟩ := h.ex
  exact ⟨F, F2, X, rt, rm, h1.keepsN k, ⟨h2.1.keepsN k, h2.2⟩, ⟨h3.1.keepsN k, h3.2⟩, ⟨h4.1.keepsN k, h4.2⟩, h5.keepsN k, h6⟩
theorem Ab.kp (h : Ab w0 w p cp sa ma p2 cp2 sb mb oq cq rs qs ot ct qt om cm qm od cd D) : Keeps no w0 w := by
  obtain ⟨F, F2, X, rt, rm, h1, _⟩ := h.ex
  exact h1.a.kp
theorem Ab.tq (h : Ab w0 w p cp sa ma p2 cp2 sb mb oq cq rs qs ot ct qt om cm qm od cd D) : Tq w oq cq rs qs := by
  obtain ⟨F, F2, X, rt, rm, h1, h2, _⟩ := h.ex
  exact h2.1
/-- the first writer takes a message: what it told last is another -/
theorem Ab.callA (h : Ab w0 w p cp sa ma p2 cp2 sb mb oq cq rs qs ot ct qt om cm qm od cd D) {X : World} (hX : Keeps no w X) (part k cl : Int) (req id : Nat) (v4 v5 v6 v7 : Option Addr) (n4 n5 n6 n7 c4 c5 c6 c7 : Nat) (hr : req < 18446744073709551616) (hi : id < 18446744073709551616) :
    Calls Try.prog 10 #[.pointer (some ⟨p, 0, none⟩), .int .i64 part, .agg #[.int .i64 k, .int .i64 cl, .int .u64 (req : Nat), .int .u64 (id : Nat), .slice v4 n4 c4, .slice v5 n5 c5, .slice v6 n6 c6, .slice v7 n7 c7]] X fun e w' => ∃ o n c, e = .returned (.slice o n c) ∧ Hid (n = (recvS sa ma part k req id).told.length ∧ Ab w0 w' p cp (recvS sa ma part k req id).s (recvS sa ma part k req id).m p2 cp2 sb mb oq cq rs qs o c (recvS sa ma part k req id).told om cm qm od cd D) := by
  obtain ⟨F, F2, Y, rt, rm, h1, h2, h3, h4, h5, h6⟩ := (h.keepsN hX).ex
  refine (wRecv_any X p cp F sa ma part k cl req id v4 v5 v6 v7 n4 n5 n6 n7 c4 c5 c6 c7 h1.a.is h1.a.wf h1.a.ct h1.a.lt h1.a.cF hr hi).mono ?_
  rintro e w' ⟨o, n, c, r5, G, rfl, t⟩
  have hk : ∀ i, Y i → ¬ (F i ∨ i = cp) := h1.xa
  refine ⟨o, n, c, rfl, t.n, G, F2, _, r5, rm, h1.tell t (h1.a.wf.recv _ _ _ _ _).1 (recv_m _ _ _ _ _ _ h1.a.lt), ⟨h2.1.keeps t.kp (fun i hi => hk i (h2.2 i hi)), fun i hi => .inl (h2.2 i hi)⟩, ⟨t.tq, fun i hi => .inr hi⟩, ⟨h4.1.keeps t.kp (fun i hi => hk i (h4.2 i hi)), fun i hi => .inl (h4.2 i hi)⟩, h5.keeps t.kp (fun i hi => hk i (h6 i hi)), fun i hi => .inl (h6 i hi)⟩
/-- the second writer takes a message -/
theorem Ab.callB (h : Ab w0 w p cp sa ma p2 cp2 sb mb oq cq rs qs ot ct qt om cm qm od cd D) {X : World} (hX : Keeps no w X) (part k cl : Int) (req id : Nat) (v4 v5 v6 v7 : Option Addr) (n4 n5 n6 n7 c4 c5 c6 c7 : Nat) (hr : req < 18446744073709551616) (hi : id < 18446744073709551616) :
    Calls Try.prog 10 #[.pointer (some ⟨p2, 0, none⟩), .int .i64 part, .agg #[.int .i64 k, .int .i64 cl, .int .u64 (req : Nat), .int .u64 (id : Nat), .slice v4 n4 c4, .slice v5 n5 c5, .slice v6 n6 c6, .slice v7 n7 c7]] X fun e w' => ∃ o n c, e = .returned (.slice o n c) ∧ Hid (n = (recvS sb mb part k req id).told.length ∧ Ab w0 w' p cp sa ma p2 cp2 (recvS sb mb part k req id).s (recvS sb mb part k req id).m oq cq rs qs ot ct qt o c (recvS sb mb part k req id).told od cd D ∧ Ab w0 w' p cp sa ma p2 cp2 (recvS sb mb part k req id).s (recvS sb mb part k req id).m oq cq rs qs ot ct qt om cm qm od cd D) := by
  obtain ⟨F, F2, Y, rt, rm, h1, h2, h3, h4, h5, h6⟩ := (h.keepsN hX).ex
  refine (wRecv_any X p2 cp2 F2 sb mb part k cl req id v4 v5 v6 v7 n4 n5 n6 n7 c4 c5 c6 c7 h1.b.is h1.b.wf h1.b.ct h1.b.lt h1.b.cF hr hi).mono ?_
  rintro e w' ⟨o, n, c, r5, G, rfl, t⟩
  have hk : ∀ i, Y i → ¬ (F2 i ∨ i = cp2) := h1.xb
  have hT := (h1.swap.tell t (h1.b.wf.recv _ _ _ _ _).1 (recv_m _ _ _ _ _ _ h1.b.lt)).swap
  have g2 := h2.1.keeps t.kp (fun i hi => hk i (h2.2 i hi))
  have g3 := h3.1.keeps t.kp (fun i hi => hk i (h3.2 i hi))
  have g4 := h4.1.keeps t.kp (fun i hi => hk i (h4.2 i hi))
  have g5 := h5.keeps t.kp (fun i hi => hk i (h6 i hi))
  exact ⟨o, n, c, rfl, t.n, ⟨F, G, _, rt, r5, hT, ⟨g2, fun i hi => .inl (h2.2 i hi)⟩, ⟨g3, fun i hi => .inl (h3.2 i hi)⟩, ⟨t.tq, fun i hi => .inr hi⟩, g5, fun i hi => .inl (h6 i hi)⟩, ⟨F, G, _, rt, rm, hT, ⟨g2, fun i hi => .inl (h2.2 i hi)⟩, ⟨g3, fun i hi => .inl (h3.2 i hi)⟩, ⟨g4, fun i hi => .inl (h4.2 i hi)⟩, g5, fun i hi => .inl (h6 i hi)⟩⟩
theorem Ab.againB (h : Ab w0 w p cp sa ma p2 cp2 sb mb oq cq rs qs ot ct qt om cm qm od cd D) {X : World} (hX : Keeps no w X) :
    Calls Try.prog 14 #[.pointer (some ⟨p2, 0, none⟩)] X fun e w' => ∃ o n c, e = .returned (.slice o n c) ∧ Hid (n = (againS sb).length ∧ Ab w0 w' p cp sa ma p2 cp2 sb mb oq cq rs qs ot ct qt om cm qm od cd D) := by
  obtain ⟨F, F2, Y, rt, rm, h1, h2, h3, h4, h5, h6⟩ := (h.keepsN hX).ex
  refine (wAgain_any X p2 cp2 F2 sb mb h1.b.is h1.b.wf h1.b.ct h1.b.lt h1.b.cF).mono ?_
  rintro e w' ⟨o, n, c, r5, G, rfl, t⟩
  have hk : ∀ i, Y i → ¬ (F2 i ∨ i = cp2) := h1.xb
  have hT := (h1.swap.tell t h1.b.wf h1.b.lt).swap
  exact ⟨o, n, c, rfl, t.n, F, G, _, rt, rm, hT, ⟨h2.1.keeps t.kp (fun i hi => hk i (h2.2 i hi)), fun i hi => .inl (h2.2 i hi)⟩, ⟨h3.1.keeps t.kp (fun i hi => hk i (h3.2 i hi)), fun i hi => .inl (h3.2 i hi)⟩, ⟨h4.1.keeps t.kp (fun i hi => hk i (h4.2 i hi)), fun i hi => .inl (h4.2 i hi)⟩, h5.keeps t.kp (fun i hi => hk i (h6 i hi)), fun i hi => .inl (h6 i hi)⟩
theorem res_eq (w : World) (p cp : Nat) (F : Nat → Prop) (s : WS) (h : IsWr w p cp F s) :
    Calls Try.prog 13 #[.pointer (some ⟨p, 0, none⟩)] w fun e w' => e = .returned (.int .i64 (s.ended : Nat)) ∧ w' = w := by
  have hc : w.cell? ⟨p, 3, none⟩ = some (.int .i64 (s.ended : Nat)) := by
    rcases h.2.2 with ⟨_, hb⟩ | ⟨he, ro, rn, rc, rz, hl⟩
    · rw [cell_of_blk hb]; rfl
    · rw [cell_of_blk hl.blk, he]; rfl
  clear h
  go_enter Try.func13, Try.ntmps13
  go_wp2_with fail
  go_ret
  exact ⟨rfl, rfl⟩
theorem Ab.resA (h : Ab w0 w p cp sa ma p2 cp2 sb mb oq cq rs qs ot ct qt om cm qm od cd D) {X : World} (hX : Keeps no w X) : Calls Try.prog 13 #[.pointer (some ⟨p, 0, none⟩)] X fun e w' => e = .returned (.int .i64 (sa.ended : Nat)) ∧ w' = X := by
  obtain ⟨F, F2, Y, rt, rm, h1, _⟩ := (h.keepsN hX).ex
  exact res_eq X p cp F sa h1.a.is
theorem Ab.resB (h : Ab w0 w p cp sa ma p2 cp2 sb mb oq cq rs qs ot ct qt om cm qm od cd D) {X : World} (hX : Keeps no w X) : Calls Try.prog 13 #[.pointer (some ⟨p2, 0, none⟩)] X fun e w' => e = .returned (.int .i64 (sb.ended : Nat)) ∧ w' = X := by
  obtain ⟨F, F2, Y, rt, rm, h1, _⟩ := (h.keepsN hX).ex
  exact res_eq X p2 cp2 F2 sb h1.b.is
theorem Ab.cts (h : Ab w0 w p cp sa ma p2 cp2 sb mb oq cq rs qs ot ct qt om cm qm od cd D) : w.cell? ⟨cp, 0, none⟩ = some (.int .u64 (ma : Nat)) ∧ w.cell? ⟨cp2, 0, none⟩ = some (.int .u64 (mb : Nat)) := by
  obtain ⟨F, F2, Y, rt, rm, h1, _⟩ := h.ex
  exact ⟨by rw [cell_of_blk h1.a.ct]; rfl, by rw [cell_of_blk h1.b.ct]; rfl⟩
/-- a mark set -/
theorem Ab.mark (h : Ab w0 w p cp sa ma p2 cp2 sb mb oq cq rs qs ot ct qt om cm qm od cd D) {j : Nat} (hj : j < D.length) : ∃ b, od = some ⟨b, 0, none⟩ ∧ (∀ i, w.frozen? ⟨b, i, none⟩ = false) ∧ w.cell? ⟨b, j, none⟩ = some (.bool (D.getD j true)) ∧ Ab w0 (w.setCell ⟨b, j, none⟩ (.bool true)) p cp sa ma p2 cp2 sb mb oq cq rs qs ot ct qt om cm qm od cd (D.set j true) := by
  obtain ⟨F, F2, Y, rt, rm, h1, h2, h3, h4, h5, h6⟩ := h.ex
  obtain ⟨b, e, hf, hc, ho, hk⟩ := h5.atB hj
  have tb : ∀ {o : Option Addr} {c : Nat} {r : List RQ} {q : List Qn}, Tq w o c r q → ∀ i, TB o r q.length i → ¬ inO od i := by
    intro o c r q ht i hi
    rcases hi with hi | ⟨j, hj, hi | hi⟩
    · exact own_apart (by decide) ht.own h5 i hi
    · exact own_apart (by decide) (ht.each j hj).ps h5 i hi
    · exact own_apart (by decide) (ht.each j hj).ks h5 i hi
  have hs : ∀ i, inO od i → w0.heap.size ≤ i := fun i hi => h1.x0 i (h6 i hi)
  refine ⟨b, e, hf, hc, F, F2, Y, rt, rm, ⟨h1.a.keeps hk (fun i hi hd => h1.xa i (h6 i hd) hi) hs, h1.b.keeps hk (fun i hi hd => h1.xb i (h6 i hd) hi) hs, h1.ab, fun i hi => Nat.lt_of_lt_of_le (h1.xlt i hi) hk.size, h1.xa, h1.xb, h1.x0⟩, ⟨h2.1.keeps hk (tb h2.1), h2.2⟩, ⟨h3.1.keeps hk (tb h3.1), h3.2⟩, ⟨h4.1.keeps hk (tb h4.1), h4.2⟩, ho, h6⟩
/-- the marks made anew -/
theorem Ab.marks (h : Ab w0 w p cp sa ma p2 cp2 sb mb oq cq rs qs ot ct qt om cm qm od cd D) {w' : World} (k : Keeps no w w') {o : Option Addr} {c : Nat} {D2 : List Bool} (ho : Own BE w' o c D2) (hn : New w o) : Ab w0 w' p cp sa ma p2 cp2 sb mb oq cq rs qs ot ct qt om cm qm o c D2 := by
  obtain ⟨F, F2, Y, rt, rm, h1, h2, h3, h4, h5, h6⟩ := (h.keepsN k).ex
  obtain ⟨F', F2', Y', rt', rm', g1, g2, g3, g4, _⟩ := h.ex
  refine ⟨F', F2', fun i => Y' i ∨ inO o i, rt', rm', ⟨(g1.keepsN k).a, (g1.keepsN k).b, g1.ab, ?_, ?_, ?_, ?_⟩, ⟨g2.1.keepsN k, fun i hi => .inl (g2.2 i hi)⟩, ⟨g3.1.keepsN k, fun i hi => .inl (g3.2 i hi)⟩, ⟨g4.1.keepsN k, fun i hi => .inl (g4.2 i hi)⟩, ho, fun i hi => .inr hi⟩
  · rintro i (hi | hi)
    · exact Nat.lt_of_lt_of_le (g1.xlt i hi) k.size
    · exact ho.lt i hi
  · rintro i (hi | hi) h2
    · exact g1.xa i hi h2
    · have := g1.a.ltF i h2; have := hn i hi; omega
  · rintro i (hi | hi) h2
    · exact g1.xb i hi h2
    · have := g1.b.ltF i h2; have := hn i hi; omega
  · rintro i (hi | hi)
    · exact g1.x0 i hi
    · exact Nat.le_trans g1.a.kp.size (hn i hi)
/-- the next round: what was told is asked -/
theorem Ab.turn (h : Ab w0 w p cp sa ma p2 cp2 sb mb oq cq rs qs ot ct qt om cm qm od cd D) : ∃ rt, Ab w0 w p cp sa ma p2 cp2 sb mb ot ct rt qt none 0 [] none 0 [] none 0 [] := by
  obtain ⟨F, F2, Y, rt, rm, h1, h2, h3, h4, h5, h6⟩ := h.ex
  have hno : ∀ i, TB none [] ([] : List Qn).length i → Y i := fun i hi => by rcases hi with ⟨x, e, _⟩ | ⟨j, hj, _⟩; cases e; simp at hj
  exact ⟨rt, F, F2, Y, [], [], h1, h3, ⟨tq_nil w, hno⟩, ⟨tq_nil w, hno⟩, own_nil w, fun i hi => by obtain ⟨x, e, _⟩ := hi; cases e⟩
theorem Ab.same (h : Ab w0 w p cp sa ma p2 cp2 sb mb oq cq rs qs ot ct qt om cm qm od cd D) (ht : FitQs qt) (hm : FitQs qm) {nt nm : Nat} (hnt : nt = qt.length) (hnm : nm = qm.length) : Calls Try.prog 18 #[.slice ot nt ct, .slice om nm cm] w fun e w' => e = .returned (.bool (decide (qt = qm))) ∧ Keeps no w w' := by
  obtain ⟨F, F2, Y, rt, rm, h1, h2, h3, h4, h5, h6⟩ := h.ex
  exact samePosts_any w ot nt ct om nm cm rt rm qt qm hnt hnm ht hm h3.1.qs h4.1.qs
/-- a question of the list that is read -/
structure Qr (qs : List Qn) (oq : Option Addr) (cq : Nat) (rs : List RQ) (i b off : Nat) (r : RQ) : Prop where
  is : oq = some ⟨b, off, none⟩
  at' : ∀ X, Tq X oq cq rs qs → At9 X b off i r
  ans : ∀ X, Calls Try.prog 11 #[.agg #[.int .i64 r.part, .int .i64 r.kind, .int .i64 r.client, .int .u64 (r.req : Nat), .int .u64 (r.id : Nat), .slice r.po r.pn r.pc, .slice r.ko r.kn r.kc, .slice r.wo 0 r.wc, .slice r.vo 0 r.vc]] X fun e w' => e = .returned (.agg #[.int .i64 (ansK (qs.getD i q0)), .int .i64 r.client, .int .u64 (r.req : Nat), .int .u64 (r.id : Nat), .slice none 0 0, .slice none 0 0, .slice none 0 0, .slice none 0 0]) ∧ Keeps no X w'
  part : r.part = (qs.getD i q0).part
  req : r.req = (qs.getD i q0).req
  id : r.id = (qs.getD i q0).id
  fit : FitQ (qs.getD i q0)
theorem qr_of {w : World} (h : Tq w oq cq rs qs) {i : Nat} (hi : i < qs.length) (hf : FitQs qs) (hk : (qs.getD i q0).kind = 1 ∨ (qs.getD i q0).kind = 2) : ∃ b off r, Qr qs oq cq rs i b off r := by
  obtain ⟨b, off, e, _⟩ := h.own.sl.atQ (j := i) (by rw [h.len]; exact hi)
  have hq := h.each i hi
  refine ⟨b, off, rs.getD i rq0, e, ?_, ?_, hq.part, hq.req, hq.id, hf.at hi⟩
  · intro X hX
    obtain ⟨b2, off2, e2, h9⟩ := hX.own.sl.atQ (j := i) (by rw [hX.len]; exact hi)
    have : b2 = b ∧ off2 = off := by rw [e] at e2; cases e2; exact ⟨rfl, rfl⟩
    obtain ⟨rfl, rfl⟩ := this
    exact h9
  · intro X
    have h1 := answer_any X (rs.getD i rq0) (by rw [hq.kind]; rcases hk with h | h <;> rw [h] <;> decide)
    unfold aggQ aggA at h1
    unfold ansK
    rw [← hq.kind]
    exact h1
end Go.Proofs.Ytghnhkhhpeoheaa
