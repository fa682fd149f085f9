import Derived.Test.YtileipnoiocdlaaXA
/- The rounds of 'run', pure. -/
namespace Go.Proofs.Ytileipnoiocdlaa
open Go.RowKit Go.Sort Orl
set_option linter.unusedVariables false
set_option linter.unusedSimpArgs false

/-- behind a round of which all is answered -/
noncomputable def rndO (P : Nat) (ws : List Wr) (g fr : Nat) (s : RS) (t : Nat) : Out := behindO (finS s (ansF P ws g s)) fr 1 t
/-- where 'run' stands at its k-th round -/
inductive RunAt (P : Nat) (ws : List Wr) (g fr : Nat) (s1 : RS) (t1 : Nat) : Nat → RS → Nat → List Qn → List Qn → Prop
  | start : RunAt P ws g fr s1 t1 0 s1 t1 (askedR s1) []
  | mid (h : (rndO P ws g fr s1 t1).s.ended = 0) : RunAt P ws g fr s1 t1 1 (rndO P ws g fr s1 t1).s (rndO P ws g fr s1 t1).t (askedR (rndO P ws g fr s1 t1).s) (askedR s1)
  | fin1 (h : ¬ (rndO P ws g fr s1 t1).s.ended = 0) : RunAt P ws g fr s1 t1 1 (rndO P ws g fr s1 t1).s (rndO P ws g fr s1 t1).t [] (askedR s1)
  | fin2 (h : (rndO P ws g fr s1 t1).s.ended = 0) : RunAt P ws g fr s1 t1 2 (rndO P ws g fr (rndO P ws g fr s1 t1).s (rndO P ws g fr s1 t1).t).s (rndO P ws g fr (rndO P ws g fr s1 t1).s (rndO P ws g fr s1 t1).t).t [] (askedR s1 ++ askedR (rndO P ws g fr s1 t1).s)
theorem pend_asked {s : RS} {m : Nat} (h : Pend s m) : askedR s ≠ [] := by
  intro e
  have h1 : (askedR s).length = 0 := by rw [e]; rfl
  rw [askedR_len, start_undone h.got, List.length_range] at h1
  have hk : s.nm.getD 0 e0 ∈ s.nm := getD_mem_lt e0 (by have := h.l1; omega)
  obtain ⟨i, hi, _⟩ := ps_has h.p1 hk
  omega
/-- the first round's outcome -/
theorem rnd1_out {P : Nat} {ws : List Wr} (hw : GoodW ws) {s : RS} (h : Pend s 1) (g fr t : Nat) :
    (¬ (rndO P ws g fr s t).s.ended = 0 ∧ (rndO P ws g fr s t).told = []) ∨
    ((rndO P ws g fr s t).s.ended = 0 ∧ Pend (rndO P ws g fr s t).s 2 ∧ (rndO P ws g fr s t).told = askedR (rndO P ws g fr s t).s ∧ (rndO P ws g fr s t).s.reqs = drawn fr 1 t (psR (rndO P ws g fr s t).s).length) := by
  unfold rndO
  rw [first_end hw h]
  by_cases hn : needsV (came1 P ws s) = []
  · rw [if_pos hn]
    left
    exact ⟨by show ¬ 1 = 0; decide, rfl⟩
  · rw [if_neg hn]
    right
    have hp := second_pend hw h hn fr 1 t
    exact ⟨hp.1.en, hp.1, rfl, rfl⟩
theorem rnd2_out {P : Nat} {ws : List Wr} {s : RS} (h : Pend s 2) (g fr t : Nat) : ¬ (rndO P ws g fr s t).s.ended = 0 ∧ (rndO P ws g fr s t).told = [] := by
  unfold rndO behindO
  rw [if_pos (fin_undone _ h.p1), if_neg (show ¬ (finS s (ansF P ws g s)).round = 1 by show ¬ s.round = 1; rw [h.rd]; decide)]
  exact ⟨endS2_end _, rfl⟩
theorem numC_small {fr t : Nat} (h : fr + t < 18446744073709551616) : numC fr 1 t = fr + t := by unfold numC w64; omega
/-- a round -/
structure RunN (P : Nat) (ws : List Wr) (g fr : Nat) (s1 : RS) (t1 : Nat) (k : Nat) (s : RS) (t : Nat) (out all : List Qn) : Prop where
  pend : ∃ m, Pend s m
  eqo : out = askedR s
  next : RunAt P ws g fr s1 t1 (k + 1) (rndO P ws g fr s t).s (rndO P ws g fr s t).t (rndO P ws g fr s t).told (all ++ out)
  old : ∀ a, a < (psR s).length → ¬ (rndO P ws g fr s t).s.ended = 0 ∨ ∀ b, b < (psR (rndO P ws g fr s t).s).length → (rndO P ws g fr s t).s.reqs.getD b 0 ≠ s.reqs.getD a 0
theorem RunAt.next {P : Nat} {ws : List Wr} (hw : GoodW ws) {g fr : Nat} {s1 : RS} {t0 t1 : Nat} (hp : Pend s1 1) (hr : s1.reqs = drawn fr 1 t0 (psR s1).length) (ht : t1 = t0 + (psR s1).length) (hb : fr + t1 + 100 < 18446744073709551616) (h64 : ∀ s, Pend s 2 → True) {k : Nat} {s : RS} {t : Nat} {out all : List Qn} (h : RunAt P ws g fr s1 t1 k s t out all) (hps : (psR (rndO P ws g fr s1 t1).s).length ≤ 64) (ho : out ≠ []) : RunN P ws g fr s1 t1 k s t out all := by
  cases h with
  | start =>
    rcases rnd1_out hw hp g fr t1 with ⟨h1, h2⟩ | ⟨h1, h2, h3, h4⟩
    · refine ⟨⟨1, hp⟩, rfl, ?_, fun a ha => .inl h1⟩
      rw [h2, List.nil_append]
      exact .fin1 h1
    · refine ⟨⟨1, hp⟩, rfl, ?_, fun a ha => .inr (fun b hb2 => ?_)⟩
      · rw [h3, List.nil_append]
        exact .mid h1
      · rw [h4, hr, drawn_at hb2, drawn_at ha, numC_small (by omega), numC_small (by omega)]
        omega
  | mid hm =>
    rcases rnd1_out hw hp g fr t1 with ⟨h1, h2⟩ | ⟨h1, h2, h3, h4⟩
    · exact absurd hm h1
    · have h5 := rnd2_out (P := P) (ws := ws) h2 g fr (rndO P ws g fr s1 t1).t
      refine ⟨⟨2, h2⟩, rfl, ?_, fun a ha => .inl h5.1⟩
      rw [h5.2]
      exact .fin2 hm
  | fin1 => exact absurd rfl ho
  | fin2 => exact absurd rfl ho
theorem RunAt.le {P : Nat} {ws : List Wr} {g fr : Nat} {s1 : RS} {t1 : Nat} {k : Nat} {s : RS} {t : Nat} {out all : List Qn} (h : RunAt P ws g fr s1 t1 k s t out all) : k ≤ 2 ∧ (k = 2 → out = []) := by
  cases h with
  | start => exact ⟨by omega, fun e => by omega⟩
  | mid => exact ⟨by omega, fun e => by omega⟩
  | fin1 => exact ⟨by omega, fun e => by omega⟩
  | fin2 => exact ⟨by omega, fun _ => rfl⟩
theorem RunAt.all_len {P : Nat} {ws : List Wr} {g fr : Nat} {s1 : RS} {t1 : Nat} {k : Nat} {s : RS} {t : Nat} {out all : List Qn} (h : RunAt P ws g fr s1 t1 k s t out all) (h1 : (askedR s1).length ≤ 64) (h2 : (askedR (rndO P ws g fr s1 t1).s).length ≤ 64) : all.length ≤ 128 ∧ out.length ≤ 64 := by
  cases h with
  | start => exact ⟨by simp, h1⟩
  | mid => exact ⟨by omega, h2⟩
  | fin1 => exact ⟨by omega, by simp⟩
  | fin2 => exact ⟨by rw [List.length_append]; omega, by simp⟩
/-- while a round's answers are taken -/
inductive RoundAt (P : Nat) (ws : List Wr) (g fr : Nat) (s : RS) (t : Nat) : List Tl → RS → Nat → List Qn → Prop
  | going (gs : List Bool) (l : List Tl) (hl : l ≠ []) (hw : WayI s (ansF P ws g s) gs l) : RoundAt P ws g fr s t l (cmS s (ansF P ws g s) gs) t []
  | done : RoundAt P ws g fr s t [] (rndO P ws g fr s t).s (rndO P ws g fr s t).t (rndO P ws g fr s t).told
theorem way_start_going {P : Nat} {ws : List Wr} {g fr : Nat} {s : RS} {m : Nat} (h : Pend s m) (t : Nat) : RoundAt P ws g fr s t (wayL P ws g (askedR s)) s t [] := by
  have hw := way_start P ws g h.p1 h.nd h.got
  have hl : wayL P ws g (askedR s) ≠ [] := by
    intro e
    have hk : s.nm.getD 0 e0 ∈ s.nm := getD_mem_lt e0 (by have := h.l1; omega)
    have hx := idx_lt hk
    have hf : (List.replicate s.nm.length false).getD (ixN s.nm (s.nm.getD 0 e0)) true = false := by
      generalize ixN s.nm (s.nm.getD 0 e0) = q at hx ⊢
      simp [List.getD_eq_getElem?_getD, hx]
    obtain ⟨t, ht, _⟩ := hw.all _ hk hf
    rw [e] at ht; cases ht
  have h2 := RoundAt.going (fr := fr) (t := t) _ _ hl hw
  rwa [cm_start _ h.got h.cam] at h2
/-- an answer is taken: once, and once more -/
structure TakeN (P : Nat) (ws : List Wr) (g fr : Nat) (s : RS) (t : Nat) (l : List Tl) (sc : RS) (tc : Nat) (j : Nat) (s2 : RS) (t2 : Nat) (o2 : List Qn) : Prop where
  en : sc.ended = 0
  ask1 : 1 ≤ (askedR sc).length
  ask2 : (askedR sc).length ≤ (askedR s).length
  first : recvO sc (l.getD j tl0).part 7 (l.getD j tl0).req [(l.getD j tl0).v] fr 1 tc = ⟨s2, o2, t2⟩
  again : recvO s2 (l.getD j tl0).part 7 (l.getD j tl0).req [(l.getD j tl0).v] fr 1 t2 = ⟨s2, [], t2⟩
  next : RoundAt P ws g fr s t (l.eraseIdx j) s2 t2 o2
  quiet : l.eraseIdx j = [] ∨ o2 = []
theorem RoundAt.take {P : Nat} {ws : List Wr} {g fr : Nat} {s : RS} {m : Nat} (h : Pend s m) {t : Nat} (old : ∀ a, a < (psR s).length → ¬ (rndO P ws g fr s t).s.ended = 0 ∨ ∀ b, b < (psR (rndO P ws g fr s t).s).length → (rndO P ws g fr s t).s.reqs.getD b 0 ≠ s.reqs.getD a 0) {l : List Tl} {sc : RS} {tc : Nat} {o : List Qn} (hr : RoundAt P ws g fr s t l sc tc o) {j : Nat} (hj : j < l.length) : ∃ s2 t2 o2, TakeN P ws g fr s t l sc tc j s2 t2 o2 ∧ o = [] := by
  cases hr with
  | done => simp at hj
  | going gs l hl hw =>
    have hk := ans_key P ws g s
    have hrecv := hw.recv h.p1 h.nd h.en hk hj fr 1 t
    obtain ⟨⟨i, k, hi, hki, e⟩, hkn, hopen⟩ := hw.right _ (getD_mem_lt tl0 hj)
    have hu : undone (cmS s (ansF P ws g s) gs) ≠ [] := fun hu => hl ((hw.none h.p1).1 hu)
    have ha1 : 1 ≤ (askedR (cmS s (ansF P ws g s) gs)).length := by rw [askedR_len]; exact List.length_pos_iff.2 hu
    have ha2 : (askedR (cmS s (ansF P ws g s) gs)).length ≤ (askedR s).length := by
      rw [askedR_len, askedR_len, start_undone h.got, List.length_range]
      exact undone_le _
    have hreq : (l.getD j tl0).req = s.reqs.getD i 0 := by rw [e]; rfl
    by_cases he : l.eraseIdx j = []
    · rw [if_pos he] at hrecv
      refine ⟨_, _, _, ⟨h.en, ha1, ha2, hrecv, ?_, ?_, .inl he⟩, rfl⟩
      · rcases old i hi with h1 | h1
        · exact recv_ended h1 _ _ _ _ _ _ _
        · exact recv_old (fun b hb => by rw [hreq]; exact h1 b hb) _ _ _ _ _ _
      · rw [he]; exact .done
    · rw [if_neg he] at hrecv
      refine ⟨_, _, _, ⟨h.en, ha1, ha2, hrecv, ?_, .going _ _ he (hw.take hk hj), .inr rfl⟩, rfl⟩
      have hv : (l.getD j tl0).v = ansF P ws g s k := by rw [e]
      have hp : (l.getD j tl0).part = (qAt s i).part := by rw [e]
      have hq : (l.getD j tl0).req = (qAt s i).req := by rw [e]
      rw [hv, hp, hq, hk]
      refine recv_again hi hki ?_ (hk k) fr 1 t
      have hix := idx_lt ((ps_keys hi).2.1 k hki)
      rw [getD_setV gs _ _ _ true (by rw [hw.gl]; exact hix), if_pos rfl]
end Go.Proofs.Ytileipnoiocdlaa
