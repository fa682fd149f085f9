/- A question that was told, answered. -/
import Derived.Test.YtghnhkhhpeoheaaW4
namespace Go.Proofs.Ytghnhkhhpeoheaa
open Go.RowKit Go.Sort Orl
set_option linter.unusedVariables false
set_option linter.unusedSimpArgs false

/-- a writer, and a list that it told -/
structure Wt (w0 w : World) (p cp : Nat) (s : WS) (m : Nat) (F : Nat → Prop) (o : Option Addr) (c : Nat) (rs : List RQ) (qs : List Qn) : Prop where
  wc : Wc w0 w p cp s m F
  tq : Tq w o c rs qs
  apart : ∀ i, TB o rs qs.length i → ¬ (F i ∨ i = cp)
theorem Wt.keepsN {w0 w w' : World} {p cp : Nat} {s : WS} {m : Nat} {F : Nat → Prop} {o : Option Addr} {c : Nat} {rs : List RQ} {qs : List Qn} (h : Wt w0 w p cp s m F o c rs qs) (k : Keeps no w w') : Wt w0 w' p cp s m F o c rs qs := ⟨h.wc.keepsN k, h.tq.keepsN k, h.apart⟩
/-- behind a call: the old list, and the new one -/
theorem Wt.tell {w0 w w' : World} {p cp : Nat} {s : WS} {m : Nat} {F G : Nat → Prop} {o o2 : Option Addr} {c n2 c2 : Nat} {rs r2 : List RQ} {qs : List Qn} {out : Out} (h : Wt w0 w p cp s m F o c rs qs) (t : Tell IsWr w p cp F out o2 n2 c2 r2 G w') (hw : WfS out.s) (hm : out.m < 18446744073709551616) : Wt w0 w' p cp out.s out.m G o c rs qs ∧ Wt w0 w' p cp out.s out.m G o2 c2 r2 out.told := by
  have hc := h.wc.tell t hw hm
  have h1 := h.tq.tell h.apart t
  refine ⟨⟨hc, h1.1, h1.2⟩, hc, t.tq, ?_⟩
  rintro i hi (h2 | rfl)
  · exact t.apart i hi h2
  · have h3 := t.new _ hi
    have h4 := lt_of_block h.wc.ct
    omega
theorem Wt.give {w0 w w' : World} {p cp : Nat} {s : WS} {m : Nat} {F : Nat → Prop} {o : Option Addr} {c : Nat} {rs : List RQ} {qs : List Qn} (h : Wt w0 w p cp s m F o c rs qs) (h1 : IsWr w' p cp F (giveS s)) (k : Keeps F w w') : Wt w0 w' p cp (giveS s) m F o c rs qs :=
  ⟨h.wc.give h1 k, h.tq.keeps k (fun i hi hf => h.apart i hi (.inl hf)), h.apart⟩
/-- all that a walk needs to answer the i-th question of a list -/
structure Rcv (w0 W : World) (p cp : Nat) (s : WS) (m : Nat) (F : Nat → Prop) (o : Option Addr) (c : Nat) (rs : List RQ) (qs : List Qn) (i b off : Nat) (r : RQ) (ka : Int) : Prop where
  is : o = some ⟨b, off, none⟩
  at' : ∀ X, Tq X o c rs qs → At9 X b off i r
  ans : ∀ X, Calls Try.prog 11 #[.agg #[.int .i64 r.part, .int .i64 r.kind, .int .i64 r.client, .int .u64 (r.req : Nat), .int .u64 (r.id : Nat), .slice r.po r.pn r.pc, .slice r.ko r.kn r.kc, .slice r.wo 0 r.wc, .slice r.vo 0 r.vc]] X fun e w' => e = .returned (.agg #[.int .i64 ka, .int .i64 r.client, .int .u64 (r.req : Nat), .int .u64 (r.id : Nat), .slice none 0 0, .slice none 0 0, .slice none 0 0, .slice none 0 0]) ∧ Keeps no X w'
  rcv : ∀ X, Keeps no W X → Calls Try.prog 10 #[.pointer (some ⟨p, 0, none⟩), .int .i64 r.part, .agg #[.int .i64 ka, .int .i64 r.client, .int .u64 (r.req : Nat), .int .u64 (r.id : Nat), .slice none 0 0, .slice none 0 0, .slice none 0 0, .slice none 0 0]] X (TellTo X p cp F (recvS s m (qs.getD i q0).part (ansK (qs.getD i q0)) (qs.getD i q0).req (qs.getD i q0).id))
theorem rcv_of {w0 W : World} {p cp : Nat} {s : WS} {m : Nat} {F : Nat → Prop} {o : Option Addr} {c : Nat} {rs : List RQ} {qs : List Qn} (h : Wt w0 W p cp s m F o c rs qs) {i : Nat} (hi : i < qs.length) (hf : FitQs qs) (hk : (qs.getD i q0).kind = 1 ∨ (qs.getD i q0).kind = 2) : ∃ b off r ka, Rcv w0 W p cp s m F o c rs qs i b off r ka := by
  obtain ⟨b, off, e, _⟩ := h.tq.own.sl.atQ (j := i) (by rw [h.tq.len]; exact hi)
  have hq := h.tq.each i hi
  have fq := hf.at hi
  refine ⟨b, off, rs.getD i rq0, ansK (qs.getD i q0), e, ?_, ?_, ?_⟩
  · intro X hX
    obtain ⟨b2, off2, e2, h9⟩ := hX.own.sl.atQ (j := i) (by rw [hX.len]; exact hi)
    have : b2 = b ∧ off2 = off := by rw [e] at e2; cases e2; exact ⟨rfl, rfl⟩
    obtain ⟨rfl, rfl⟩ := this
    exact h9
  · intro X
    have h1 := answer_any X (rs.getD i rq0) (by rw [hq.kind]; rcases hk with h | h <;> rw [h] <;> decide)
    unfold aggQ aggA at h1
    unfold ansK
    rw [← hq.kind]
    exact h1
  · intro X hX
    have h1 := wRecv_any X p cp F s m (qs.getD i q0).part (ansK (qs.getD i q0)) (qs.getD i q0).client (qs.getD i q0).req (qs.getD i q0).id none none none none 0 0 0 0 0 0 0 0 (h.wc.keepsN hX).is h.wc.wf (h.wc.keepsN hX).ct h.wc.lt h.wc.cF fq.req fq.id
    rw [hq.part, hq.client, hq.req, hq.id]
    exact h1
theorem asked_kind (s : WS) {i : Nat} (hi : i < s.ps.length) : ((askedS s).getD i q0).kind = 1 ∨ ((askedS s).getD i q0).kind = 2 := by
  rw [asked_at s hi]
  show (if s.round = 1 then (1 : Int) else 2) = 1 ∨ (if s.round = 1 then (1 : Int) else 2) = 2
  split
  · exact .inl rfl
  · exact .inr rfl
/-! ### WriterGives, in pure lists -/
structure St2 where
  s : WS
  m : Nat
/-- behind i answers in their order; s1: the first round, m: the number behind it -/
def stG (s1 : WS) (m : Nat) (i : Nat) : St2 :=
  if i < s1.ps.length then ⟨ordS s1 i, m⟩ else if i < 2 * s1.ps.length then ⟨ordS (askS s1 m) (i - s1.ps.length), numS s1 m⟩ else ⟨{ ordS (askS s1 m) s1.ps.length with ended := 1 }, numS s1 m⟩
/-- what was told last -/
def cmG (s1 : WS) (m : Nat) (i : Nat) : List Qn := if i < s1.ps.length then [] else askedS (askS s1 m)
structure G1 (s1 : WS) : Prop where
  wf : WfS s1
  round : s1.round = 1
  ended : s1.ended = 0
theorem G1.two {s1 : WS} (h : G1 s1) (m : Nat) : WfS (askS s1 m) ∧ (askS s1 m).round = 2 ∧ (askS s1 m).ended = 0 := ⟨h.wf.ask m (by rw [h.round]; omega), by show s1.round + 1 = 2; rw [h.round], h.ended⟩
theorem G1.wfG {s1 : WS} (h : G1 s1) (m : Nat) (i : Nat) : WfS (stG s1 m i).s := by
  have ho : ∀ s, WfS s → ∀ j, j ≤ s.ps.length → WfS (ordS s j) := fun s hs j hj => ⟨hs.lo, hs.hi, hs.pos, hs.most, hs.part, hs.keys, hs.round, fun _ => by unfold ordS; simp; omega, hs.ended⟩
  unfold stG
  split
  · exact ho s1 h.wf i (by omega)
  · split
    · exact ho _ (h.two m).1 _ (by show i - s1.ps.length ≤ s1.ps.length; omega)
    · have := ho _ (h.two m).1 s1.ps.length (Nat.le_refl _)
      exact ⟨this.lo, this.hi, this.pos, this.most, this.part, this.keys, this.round, this.done, by show 1 ≤ 4; omega⟩
theorem G1.first {s1 : WS} (h : G1 s1) (m : Nat) {i : Nat} (hi : i < s1.ps.length) : recvS (stG s1 m i).s (stG s1 m i).m ((askedS s1).getD i q0).part (ansK ((askedS s1).getD i q0)) ((askedS s1).getD i q0).req ((askedS s1).getD i q0).id = ⟨(stG s1 m (i + 1)).s, cmG s1 m (i + 1), (stG s1 m (i + 1)).m⟩ := by
  rw [asked_at s1 hi]
  have h0 : stG s1 m i = ⟨ordS s1 i, m⟩ := by unfold stG; rw [if_pos hi]
  rw [h0]
  have hr := recv_ord h.wf (by rw [h.round]; omega) h.ended hi m
  simp only
  rw [hr]
  by_cases e : i + 1 = s1.ps.length
  · rw [if_pos e, if_neg (by rw [h.round]; omega)]
    have hp := h.wf.pos
    have h1 : stG s1 m (i + 1) = ⟨ordS (askS s1 m) 0, numS s1 m⟩ := by
      unfold stG
      rw [if_neg (by omega), if_pos (by omega), e, Nat.sub_self]
    have h2 : cmG s1 m (i + 1) = askedS (askS s1 m) := by unfold cmG; rw [if_neg (by omega)]
    rw [h1, h2, ← ask_ord]
  · rw [if_neg e]
    have h1 : stG s1 m (i + 1) = ⟨ordS s1 (i + 1), m⟩ := by unfold stG; rw [if_pos (by omega)]
    have h2 : cmG s1 m (i + 1) = [] := by unfold cmG; rw [if_pos (by omega)]
    rw [h1, h2]
theorem G1.second {s1 : WS} (h : G1 s1) (m : Nat) {i : Nat} (hi : s1.ps.length ≤ i) (hi2 : i < 2 * s1.ps.length) : recvS (stG s1 m i).s (stG s1 m i).m ((askedS (askS s1 m)).getD (i - s1.ps.length) q0).part (ansK ((askedS (askS s1 m)).getD (i - s1.ps.length) q0)) ((askedS (askS s1 m)).getD (i - s1.ps.length) q0).req ((askedS (askS s1 m)).getD (i - s1.ps.length) q0).id = ⟨(stG s1 m (i + 1)).s, [], (stG s1 m (i + 1)).m⟩ := by
  have hlt : i - s1.ps.length < (askS s1 m).ps.length := by show i - s1.ps.length < s1.ps.length; omega
  rw [asked_at (askS s1 m) hlt]
  have h0 : stG s1 m i = ⟨ordS (askS s1 m) (i - s1.ps.length), numS s1 m⟩ := by unfold stG; rw [if_neg (by omega), if_pos hi2]
  rw [h0]
  have hr := recv_ord (h.two m).1 (by rw [(h.two m).2.1]; omega) (h.two m).2.2 hlt (numS s1 m)
  simp only
  rw [hr]
  by_cases e : i - s1.ps.length + 1 = s1.ps.length
  · rw [if_pos (show i - s1.ps.length + 1 = (askS s1 m).ps.length from e), if_pos (h.two m).2.1]
    have h1 : stG s1 m (i + 1) = ⟨{ ordS (askS s1 m) s1.ps.length with ended := 1 }, numS s1 m⟩ := by
      unfold stG
      rw [if_neg (by omega), if_neg (by omega)]
    rw [h1]
    rfl
  · rw [if_neg (show ¬ i - s1.ps.length + 1 = (askS s1 m).ps.length from e)]
    have h1 : stG s1 m (i + 1) = ⟨ordS (askS s1 m) (i + 1 - s1.ps.length), numS s1 m⟩ := by
      unfold stG
      rw [if_neg (by omega), if_pos (by omega)]
    rw [h1, show i + 1 - s1.ps.length = i - s1.ps.length + 1 by omega]
def wantG (L n : Nat) : Nat := if n = 2 * L then 1 else if L ≤ n then 4 else 3
theorem G1.gave {s1 : WS} (h : G1 s1) (m : Nat) {n : Nat} (hn : n ≤ 2 * s1.ps.length) : (giveS (stG s1 m n).s).ended = wantG s1.ps.length n := by
  have hp := h.wf.pos
  unfold stG wantG
  by_cases h1 : n < s1.ps.length
  · rw [if_pos h1, if_neg (by omega), if_neg (by omega)]
    unfold giveS
    rw [if_pos (show (ordS s1 n).ended = 0 from h.ended)]
    show (if s1.round = 2 then 4 else 3) = 3
    rw [if_neg (by rw [h.round]; omega)]
  · rw [if_neg h1]
    by_cases h2 : n < 2 * s1.ps.length
    · rw [if_pos h2, if_neg (by omega), if_pos (by omega)]
      unfold giveS
      rw [if_pos (show (ordS (askS s1 m) (n - s1.ps.length)).ended = 0 from h.ended)]
      show (if (askS s1 m).round = 2 then 4 else 3) = 4
      rw [if_pos (h.two m).2.1]
    · rw [if_neg h2, if_pos (by omega)]
      unfold giveS
      rw [if_neg (by show ¬ 1 = 0; omega)]
theorem wantG_pos (L n : Nat) : ¬ wantG L n = 0 := by
  unfold wantG
  by_cases h : n = 2 * L
  · rw [if_pos h]; omega
  · rw [if_neg h]
    by_cases h2 : L ≤ n
    · rw [if_pos h2]; omega
    · rw [if_neg h2]; omega
end Go.Proofs.Ytghnhkhhpeoheaa
