/- Two writers side by side, lists that they told, each by itself. -/
import Derived.Test.YtghnhkhhpeoheaaOW
namespace Go.Proofs.Ytghnhkhhpeoheaa
open Go.RowKit Go.Sort Orl
set_option linter.unusedVariables false
set_option linter.unusedSimpArgs false

structure TL where
  o : Option Addr
  c : Nat
  rs : List RQ
  qs : List Qn
def tl0 : TL := ⟨none, 0, [], []⟩
def TBt (t : TL) (i : Nat) : Prop := TB t.o t.rs t.qs.length i
theorem tb0 {i : Nat} (h : TBt tl0 i) : False := by
  rcases h with ⟨x, e, _⟩ | ⟨j, hj, _⟩
  · cases e
  · exact absurd hj (by simp [tl0])
structure Md (w0 w : World) (p cp : Nat) (sa : WS) (ma : Nat) (p2 cp2 : Nat) (sb : WS) (mb : Nat) (T : Nat → TL) : Prop where
  ex : ∃ F F2 X, Two w0 w p cp sa ma F p2 cp2 sb mb F2 X ∧ (∀ n, Tq w (T n).o (T n).c (T n).rs (T n).qs ∧ ∀ i, TBt (T n) i → X i) ∧ ∀ n m, ¬ n = m → ∀ i, TBt (T n) i → ¬ TBt (T m) i
def updT (T : Nat → TL) (n : Nat) (t : TL) : Nat → TL := fun k => if k = n then t else T k
def T4 (t0 t1 t2 t3 : TL) : Nat → TL
  | 0 => t0
  | 1 => t1
  | 2 => t2
  | 3 => t3
  | _ => tl0
theorem updT_0 (t0 t1 t2 t3 t : TL) : updT (T4 t0 t1 t2 t3) 0 t = T4 t t1 t2 t3 := by
  funext n; match n with
  | 0 => rfl | 1 => rfl | 2 => rfl | 3 => rfl | n + 4 => rfl
theorem updT_1 (t0 t1 t2 t3 t : TL) : updT (T4 t0 t1 t2 t3) 1 t = T4 t0 t t2 t3 := by
  funext n; match n with
  | 0 => rfl | 1 => rfl | 2 => rfl | 3 => rfl | n + 4 => rfl
theorem updT_2 (t0 t1 t2 t3 t : TL) : updT (T4 t0 t1 t2 t3) 2 t = T4 t0 t1 t t3 := by
  funext n; match n with
  | 0 => rfl | 1 => rfl | 2 => rfl | 3 => rfl | n + 4 => rfl
variable {w0 w w' : World} {p cp : Nat} {sa : WS} {ma : Nat} {p2 cp2 : Nat} {sb : WS} {mb : Nat} {T : Nat → TL}
theorem Md.keepsN (h : Md w0 w p cp sa ma p2 cp2 sb mb T) (k : Keeps no w w') : Md w0 w' p cp sa ma p2 cp2 sb mb T := by
  obtain ⟨F, F2, X, h1, h2, h3⟩ := h.ex
  exact ⟨F, F2, X, h1.keepsN k, fun n => ⟨(h2 n).1.keepsN k, (h2 n).2⟩, h3⟩
theorem Md.kp (h : Md w0 w p cp sa ma p2 cp2 sb mb T) : Keeps no w0 w := by
  obtain ⟨F, F2, X, h1, _⟩ := h.ex
  exact h1.a.kp
theorem Md.tq (h : Md w0 w p cp sa ma p2 cp2 sb mb T) (n : Nat) : Tq w (T n).o (T n).c (T n).rs (T n).qs := by
  obtain ⟨F, F2, X, h1, h2, _⟩ := h.ex
  exact (h2 n).1
theorem md_sep {o : Option Addr} {c : Nat} {rs : List RQ} {qs : List Qn} (k : Nat) (h2 : ∀ n, Tq w (T n).o (T n).c (T n).rs (T n).qs) (h3 : ∀ n m, ¬ n = m → ∀ i, TBt (T n) i → ¬ TBt (T m) i) (hn : ∀ i, TB o rs qs.length i → w.heap.size ≤ i) :
    ∀ n m, ¬ n = m → ∀ i, TBt (updT T k ⟨o, c, rs, qs⟩ n) i → ¬ TBt (updT T k ⟨o, c, rs, qs⟩ m) i := by
  intro n m hnm i hi hj
  unfold updT at hi hj
  by_cases e1 : n = k
  · rw [if_pos e1] at hi
    rw [if_neg (fun e => hnm (e1.trans e.symm))] at hj
    have := hn i hi
    have := (h2 m).lt i hj
    omega
  · rw [if_neg e1] at hi
    by_cases e2 : m = k
    · rw [if_pos e2] at hj
      have := hn i hj
      have := (h2 n).lt i hi
      omega
    · rw [if_neg e2] at hj
      exact h3 n m hnm i hi hj
theorem Two.mdA {F F2 X G : Nat → Prop} {out : Out} {o : Option Addr} {n c : Nat} {rs : List RQ} (h1 : Two w0 w p cp sa ma F p2 cp2 sb mb F2 X) (h2 : ∀ n, Tq w (T n).o (T n).c (T n).rs (T n).qs ∧ ∀ i, TBt (T n) i → X i) (h3 : ∀ n m, ¬ n = m → ∀ i, TBt (T n) i → ¬ TBt (T m) i) (t : Tell IsWr w p cp F out o n c rs G w') (hw : WfS out.s) (hm : out.m < 18446744073709551616) (k : Nat) : Md w0 w' p cp out.s out.m p2 cp2 sb mb (updT T k ⟨o, c, rs, out.told⟩) := by
  refine ⟨G, F2, _, h1.tell t hw hm, fun j => ?_, md_sep k (fun n => (h2 n).1) h3 t.new⟩
  unfold updT
  split
  · exact ⟨t.tq, fun i hi => .inr hi⟩
  · exact ⟨(h2 j).1.keeps t.kp (fun i hi => h1.xa i ((h2 j).2 i hi)), fun i hi => .inl ((h2 j).2 i hi)⟩
theorem Two.mdB {F F2 X G : Nat → Prop} {out : Out} {o : Option Addr} {n c : Nat} {rs : List RQ} (h1 : Two w0 w p cp sa ma F p2 cp2 sb mb F2 X) (h2 : ∀ n, Tq w (T n).o (T n).c (T n).rs (T n).qs ∧ ∀ i, TBt (T n) i → X i) (h3 : ∀ n m, ¬ n = m → ∀ i, TBt (T n) i → ¬ TBt (T m) i) (t : Tell IsWr w p2 cp2 F2 out o n c rs G w') (hw : WfS out.s) (hm : out.m < 18446744073709551616) (k : Nat) : Md w0 w' p cp sa ma p2 cp2 out.s out.m (updT T k ⟨o, c, rs, out.told⟩) := by
  refine ⟨F, G, _, (h1.swap.tell t hw hm).swap, fun j => ?_, md_sep k (fun n => (h2 n).1) h3 t.new⟩
  unfold updT
  split
  · exact ⟨t.tq, fun i hi => .inr hi⟩
  · exact ⟨(h2 j).1.keeps t.kp (fun i hi => h1.xb i ((h2 j).2 i hi)), fun i hi => .inl ((h2 j).2 i hi)⟩
theorem Md.callA (h : Md w0 w p cp sa ma p2 cp2 sb mb T) (sl : Nat) {X : World} (hX : Keeps no w X) (part k cl : Int) (req id : Nat) (hr : req < 18446744073709551616) (hi : id < 18446744073709551616) :
    Calls Try.prog 10 #[.pointer (some ⟨p, 0, none⟩), .int .i64 part, .agg #[.int .i64 k, .int .i64 cl, .int .u64 (req : Nat), .int .u64 (id : Nat), .slice none 0 0, .slice none 0 0, .slice none 0 0, .slice none 0 0]] X fun e w' => ∃ o n c, e = .returned (.slice o n c) ∧ Hid (n = (recvS sa ma part k req id).told.length ∧ ∃ rs, Md w0 w' p cp (recvS sa ma part k req id).s (recvS sa ma part k req id).m p2 cp2 sb mb (updT T sl ⟨o, c, rs, (recvS sa ma part k req id).told⟩)) := by
  obtain ⟨F, F2, Y, h1, h2, h3⟩ := (h.keepsN hX).ex
  refine (wRecv_any X p cp F sa ma part k cl req id none none none none 0 0 0 0 0 0 0 0 h1.a.is h1.a.wf h1.a.ct h1.a.lt h1.a.cF hr hi).mono ?_
  rintro e w' ⟨o, n, c, r5, G, rfl, t⟩
  exact ⟨o, n, c, rfl, t.n, r5, h1.mdA h2 h3 t (h1.a.wf.recv _ _ _ _ _).1 (recv_m _ _ _ _ _ _ h1.a.lt) sl⟩
theorem Md.callB (h : Md w0 w p cp sa ma p2 cp2 sb mb T) (sl : Nat) {X : World} (hX : Keeps no w X) (part k cl : Int) (req id : Nat) (hr : req < 18446744073709551616) (hi : id < 18446744073709551616) :
    Calls Try.prog 10 #[.pointer (some ⟨p2, 0, none⟩), .int .i64 part, .agg #[.int .i64 k, .int .i64 cl, .int .u64 (req : Nat), .int .u64 (id : Nat), .slice none 0 0, .slice none 0 0, .slice none 0 0, .slice none 0 0]] X fun e w' => ∃ o n c, e = .returned (.slice o n c) ∧ Hid (n = (recvS sb mb part k req id).told.length ∧ ∃ rs, Md w0 w' p cp sa ma p2 cp2 (recvS sb mb part k req id).s (recvS sb mb part k req id).m (updT T sl ⟨o, c, rs, (recvS sb mb part k req id).told⟩)) := by
  obtain ⟨F, F2, Y, h1, h2, h3⟩ := (h.keepsN hX).ex
  refine (wRecv_any X p2 cp2 F2 sb mb part k cl req id none none none none 0 0 0 0 0 0 0 0 h1.b.is h1.b.wf h1.b.ct h1.b.lt h1.b.cF hr hi).mono ?_
  rintro e w' ⟨o, n, c, r5, G, rfl, t⟩
  exact ⟨o, n, c, rfl, t.n, r5, h1.mdB h2 h3 t (h1.b.wf.recv _ _ _ _ _).1 (recv_m _ _ _ _ _ _ h1.b.lt) sl⟩
theorem Md.again (h : Md w0 w p cp sa ma p2 cp2 sb mb T) (sl : Nat) :
    Calls Try.prog 14 #[.pointer (some ⟨p, 0, none⟩)] w fun e w' => ∃ o n c, e = .returned (.slice o n c) ∧ Hid (n = (againS sa).length ∧ ∃ rs, Md w0 w' p cp sa ma p2 cp2 sb mb (updT T sl ⟨o, c, rs, againS sa⟩)) := by
  obtain ⟨F, F2, Y, h1, h2, h3⟩ := h.ex
  refine (wAgain_any w p cp F sa ma h1.a.is h1.a.wf h1.a.ct h1.a.lt h1.a.cF).mono ?_
  rintro e w' ⟨o, n, c, r5, G, rfl, t⟩
  exact ⟨o, n, c, rfl, t.n, r5, h1.mdA h2 h3 t h1.a.wf h1.a.lt sl⟩
theorem Md.same (h : Md w0 w p cp sa ma p2 cp2 sb mb T) (n m : Nat) (hn : FitQs (T n).qs) (hm : FitQs (T m).qs) {ln lm : Nat} (e1 : ln = (T n).qs.length) (e2 : lm = (T m).qs.length) (he : (T n).qs = (T m).qs) : Calls Try.prog 18 #[.slice (T n).o ln (T n).c, .slice (T m).o lm (T m).c] w fun e w' => e = .returned (.bool true) ∧ Keeps no w w' := by
  have := samePosts_any w _ ln _ _ lm _ _ _ _ _ e1 e2 hn hm (h.tq n).qs (h.tq m).qs
  rwa [decide_eq_true he] at this
theorem Md.sub (h : Md w0 w p cp sa ma p2 cp2 sb mb T) {T' : Nat → TL} (g : Nat → Nat) (hT : ∀ n, T' n = tl0 ∨ T' n = T (g n)) (hg : ∀ n m, ¬ n = m → T' n = tl0 ∨ T' m = tl0 ∨ ¬ g n = g m) : Md w0 w p cp sa ma p2 cp2 sb mb T' := by
  obtain ⟨F, F2, X, h1, h2, h3⟩ := h.ex
  refine ⟨F, F2, X, h1, fun n => ?_, fun n m hnm i hi hj => ?_⟩
  · rcases hT n with e | e
    · rw [e]; exact ⟨tq_nil w, fun i hi => (tb0 hi).elim⟩
    · rw [e]; exact h2 _
  · rcases hg n m hnm with e | e | e
    · rw [e] at hi; exact tb0 hi
    · rw [e] at hj; exact tb0 hj
    · rcases hT n with e1 | e1
      · rw [e1] at hi; exact tb0 hi
      · rcases hT m with e2 | e2
        · rw [e2] at hj; exact tb0 hj
        · rw [e1] at hi; rw [e2] at hj; exact h3 _ _ e i hi hj
/-- how the first three lists lie -/
def layT (T : Nat → TL) : Lay := ⟨fun i => (T i).o, fun i => (T i).c, fun i => (T i).qs.length, fun i k => ((T i).rs.getD k rq0).ko, fun i k => ((T i).rs.getD k rq0).kc, fun i k => ((T i).qs.getD k q0).keys.length, fun i k => ((T i).rs.getD k rq0).po, fun i k => ((T i).rs.getD k rq0).pc, fun i k => ((T i).qs.getD k q0).pairs.length⟩
theorem ob_tb {x : Nat} (h : OB (layT T) x) : ∃ i, i < 3 ∧ TBt (T i) x := by
  obtain ⟨i, hi, h | ⟨k, hk, h⟩⟩ := h
  · exact ⟨i, hi, .inl h⟩
  · exact ⟨i, hi, .inr ⟨k, hk, h.symm⟩⟩
theorem ov_of (h2 : ∀ n, Tq w (T n).o (T n).c (T n).rs (T n).qs) : Ov w (layT T) (fun i k => ((T i).qs.getD k q0).part) (fun i k => ((T i).qs.getD k q0).keys) (fun i k => ((T i).qs.getD k q0).pairs) := by
  refine ⟨fun i hi => ⟨(T i).rs, (h2 i).own, (h2 i).len, fun k hk => ?_⟩, fun i k hi hk => ?_, fun i k hi hk => ?_⟩
  · have h := (h2 i).each k hk
    exact ⟨h.part, rfl, h.kn, rfl, rfl, h.pn, rfl⟩
  · exact ⟨((h2 i).each k hk).ks, rfl⟩
  · exact ⟨((h2 i).each k hk).ps, rfl⟩
theorem sep_of (h2 : ∀ n, Tq w (T n).o (T n).c (T n).rs (T n).qs) (hf : ∀ i, i < 3 → FitQs (T i).qs) (h3 : ∀ n m, ¬ n = m → ∀ i, TBt (T n) i → ¬ TBt (T m) i) : Sep (layT T) := by
  refine ⟨fun i hi => (hf i hi).1, fun i k hi hk => ((hf i hi).at hk).kl, fun i k hi hk => ((hf i hi).at hk).pl, fun i j hi hj hne x h1 h2' => h3 i j hne x (.inl h1) (.inl h2'), ?_, ?_⟩
  · intro i k j l hi hj hk hl hne x h1 h4
    by_cases e : i = j
    · subst e
      have hkl : ¬ k = l := fun e => hne ⟨rfl, e⟩
      rcases Nat.lt_or_gt_of_ne hkl with h5 | h5
      · exact (h2 i).sepK k l h5 hl x h1 h4
      · exact (h2 i).sepK l k h5 hk x h4 h1
    · exact h3 i j e x (.inr ⟨k, hk, .inr h1⟩) (.inr ⟨l, hl, .inr h4⟩)
  · intro i k j l hi hj hk hl hne x h1 h4
    by_cases e : i = j
    · subst e
      have hkl : ¬ k = l := fun e => hne ⟨rfl, e⟩
      rcases Nat.lt_or_gt_of_ne hkl with h5 | h5
      · exact (h2 i).sepP k l h5 hl x h1 h4
      · exact (h2 i).sepP l k h5 hk x h4 h1
    · exact h3 i j e x (.inr ⟨k, hk, .inl h1⟩) (.inr ⟨l, hl, .inl h4⟩)
theorem not_own {α : Type} {E : El α} {G : Nat} {cs : Array Value} {t : TypeId} {z : Nat × Nat} (hG : w.heap[G]? = some (.cells cs t z)) (ht : E.e ≠ t) {o : Option Addr} {c : Nat} {xs : List α} (h : Own E w o c xs) : ¬ inO o G := by
  rintro ⟨x, e, hx⟩
  rcases h.shape with ⟨e', _⟩ | ⟨g, cur, e', hg, _⟩
  · rw [e'] at e; cases e
  · rw [e'] at e; cases e
    simp only at hx
    subst hx
    rw [hG] at hg
    injection hg with h1
    injection h1 with _ h2 _
    exact ht h2.symm
/-- three of the lists are handed to overs -/
theorem Md.overs (h : Md w0 w p cp sa ma p2 cp2 sb mb T) (hf : ∀ i, i < 3 → FitQs (T i).qs) (n0 n1 n2 : Nat) (e0' : n0 = (T 0).qs.length) (e1' : n1 = (T 1).qs.length) (e2' : n2 = (T 2).qs.length) :
    Calls Try.prog 19 #[.slice (some ⟨w.heap.size, 0, none⟩) 3 3] (w.alloc (.cells #[.slice (T 0).o n0 (T 0).c, .slice (T 1).o n1 (T 1).c, .slice (T 2).o n2 (T 2).c] 30)) fun e w' => e = .returned (.bool true) ∧ Md w0 w' p cp sa ma p2 cp2 sb mb (T4 tl0 tl0 tl0 (T 3)) := by
  obtain ⟨wg, hwg⟩ : ∃ wg, wg = w.alloc (.cells #[.slice (T 0).o n0 (T 0).c, .slice (T 1).o n1 (T 1).c, .slice (T 2).o n2 (T 2).c] 30) := ⟨_, rfl⟩
  have hkg : Keeps no w wg := by rw [hwg]; exact (Keeps.refl _ _).alloc _
  have hbg : wg.heap[w.heap.size]? = some (.cells #[.slice (T 0).o n0 (T 0).c, .slice (T 1).o n1 (T 1).c, .slice (T 2).o n2 (T 2).c] 30 (0, 0)) := by rw [hwg]; exact blk_new _ _
  rw [← hwg]
  obtain ⟨F, F2, X, h1, h2, h3⟩ := (h.keepsN hkg).ex
  have hq := fun n => (h2 n).1
  have hob : ¬ OB (layT T) w.heap.size := by
    rintro ⟨i, hi, hx | ⟨k, hk, hx | hx⟩⟩
    · exact not_own hbg (by decide) (hq i).own hx
    · exact not_own hbg (by decide) ((hq i).each k hk).ks hx
    · exact not_own hbg (by decide) ((hq i).each k hk).ps hx
  refine (overs_any wg (layT T) _ _ _ w.heap.size (sep_of hq hf h3) (ov_of hq) ?_ hob).mono ?_
  · intro i hi
    rw [cell_of_blk hbg]
    have hcs : i = 0 ∨ i = 1 ∨ i = 2 := by omega
    rcases hcs with rfl | rfl | rfl
    · rw [e0']; rfl
    · rw [e1']; rfl
    · rw [e2']; rfl
  · rintro e w' ⟨rfl, hk⟩
    refine ⟨rfl, F, F2, X, ?_, fun n => ?_, fun n m hnm i hi hj => ?_⟩
    · have hX : ∀ i, OB (layT T) i → X i := fun i hi => by obtain ⟨j, _, hj⟩ := ob_tb hi; exact (h2 j).2 i hj
      have hs : ∀ i, OB (layT T) i → w0.heap.size ≤ i := fun i hi => h1.x0 i (hX i hi)
      exact ⟨h1.a.keeps hk (fun i hi hd => h1.xa i (hX i hd) hi) hs, h1.b.keeps hk (fun i hi hd => h1.xb i (hX i hd) hi) hs, h1.ab, fun i hi => Nat.lt_of_lt_of_le (h1.xlt i hi) hk.size, h1.xa, h1.xb, h1.x0⟩
    · by_cases e : n = 3
      · subst e
        refine ⟨(h2 3).1.keeps hk (fun i hi hd => ?_), (h2 3).2⟩
        obtain ⟨j, hj, hd'⟩ := ob_tb hd
        exact h3 3 j (by omega) i hi hd'
      · have : T4 tl0 tl0 tl0 (T 3) n = tl0 := by
          match n, e with
          | 0, _ => rfl
          | 1, _ => rfl
          | 2, _ => rfl
          | 3, e => exact absurd rfl e
          | n + 4, _ => rfl
        rw [this]
        exact ⟨tq_nil w', fun i hi => (tb0 hi).elim⟩
    · have hz : ∀ n, ¬ n = 3 → T4 tl0 tl0 tl0 (T 3) n = tl0 := by
        intro n e
        match n, e with
        | 0, _ => rfl
        | 1, _ => rfl
        | 2, _ => rfl
        | 3, e => exact absurd rfl e
        | n + 4, _ => rfl
      by_cases e : n = 3
      · rw [hz m (fun e2 => hnm (e.trans e2.symm))] at hj; exact tb0 hj
      · rw [hz n e] at hi; exact tb0 hi
theorem Rn.again {s : WS} {L : Nat} (h : Rn s L) : againS s = askedS s := by
  unfold againS askedS
  rw [if_neg (by have := h.round; have := h.ended; omega)]
  congr 1
  apply List.filter_eq_self.2
  intro i hi
  have hi2 : i < s.ps.length := by simpa using hi
  rw [h.done, List.getD_eq_getElem?_getD, List.getElem?_replicate, if_pos (by rw [h.len]; exact hi2)]
  rfl
end Go.Proofs.Ytghnhkhhpeoheaa
