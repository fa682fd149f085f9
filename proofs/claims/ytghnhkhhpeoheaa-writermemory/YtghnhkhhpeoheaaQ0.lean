/- Any order: a writer answered in any order, in pure lists. -/
import Derived.Test.YtghnhkhhpeoheaaLG
namespace Go.Proofs.Ytghnhkhhpeoheaa
open Go.RowKit Go.Sort Orl
set_option linter.unusedVariables false
set_option linter.unusedSimpArgs false

/-- a round's beginning -/
structure Rn (s : WS) (L : Nat) : Prop where
  wf : WfS s
  len : L = s.ps.length
  round : s.round = 1 ∨ s.round = 2
  ended : s.ended = 0
  done : s.done = List.replicate L false
/-- when a round's questions are all answered -/
def outR (s : WS) (m : Nat) : Out := if s.round = 2 then ⟨{ ordS s s.ps.length with ended := 1 }, [], m⟩ else ⟨askS s m, askedS (askS s m), numS s m⟩
/-- answered in their order, i of them -/
def stA (s : WS) (m i : Nat) : Out := if i < s.ps.length then ⟨ordS s i, [], m⟩ else outR s m
/-- answered in any order -/
def stB (s : WS) (m : Nat) (D : List Bool) : Out := if D.all id = true then outR s m else ⟨{ s with done := D }, [], m⟩
theorem Rn.wfD {s : WS} {L : Nat} (h : Rn s L) {D : List Bool} (hD : D.length = L) : WfS { s with done := D } := ⟨h.wf.lo, h.wf.hi, h.wf.pos, h.wf.most, h.wf.part, h.wf.keys, h.wf.round, fun _ => by rw [hD, h.len], h.wf.ended⟩
theorem Rn.wfO {s : WS} {L : Nat} (h : Rn s L) (m : Nat) : WfS (outR s m).s := by
  unfold outR
  have ho : WfS (ordS s s.ps.length) := ⟨h.wf.lo, h.wf.hi, h.wf.pos, h.wf.most, h.wf.part, h.wf.keys, h.wf.round, fun _ => by unfold ordS; simp, h.wf.ended⟩
  split
  · exact ⟨ho.lo, ho.hi, ho.pos, ho.most, ho.part, ho.keys, ho.round, ho.done, by show 1 ≤ 4; omega⟩
  · exact h.wf.ask m (by have := h.round; omega)
theorem Rn.wfA {s : WS} {L : Nat} (h : Rn s L) (m i : Nat) : WfS (stA s m i).s := by
  unfold stA
  split
  · exact ⟨h.wf.lo, h.wf.hi, h.wf.pos, h.wf.most, h.wf.part, h.wf.keys, h.wf.round, fun _ => by unfold ordS; simp; omega, h.wf.ended⟩
  · exact h.wfO m
theorem Rn.wfB {s : WS} {L : Nat} (h : Rn s L) (m : Nat) {D : List Bool} (hD : D.length = L) : WfS (stB s m D).s := by
  unfold stB
  split
  · exact h.wfO m
  · exact h.wfD hD
theorem outR_m (s : WS) (m : Nat) (h : m < 18446744073709551616) : (outR s m).m < 18446744073709551616 := by
  unfold outR
  split
  · exact h
  · exact num_lt _ _
theorem stA_m (s : WS) (m i : Nat) (h : m < 18446744073709551616) : (stA s m i).m < 18446744073709551616 := by
  unfold stA
  split
  · exact h
  · exact outR_m s m h
theorem stB_m (s : WS) (m : Nat) (D : List Bool) (h : m < 18446744073709551616) : (stB s m D).m < 18446744073709551616 := by
  unfold stB
  split
  · exact outR_m s m h
  · exact h
theorem Rn.zero {s : WS} {L : Nat} (h : Rn s L) (m : Nat) : stA s m 0 = ⟨s, [], m⟩ := by
  have hp := h.wf.pos
  unfold stA
  rw [if_pos (by omega)]
  have : ordS s 0 = s := by
    unfold ordS
    have := h.done
    rw [h.len] at this
    simp [← this]
  rw [this]
theorem Rn.all0 {s : WS} {L : Nat} (h : Rn s L) (m : Nat) : stB s m (List.replicate L false) = ⟨s, [], m⟩ := by
  have hp := h.wf.pos
  unfold stB
  have hL : ¬ L = 0 := by rw [h.len]; omega
  have : (List.replicate L false).all id = false := by
    cases L with
    | zero => exact absurd rfl hL
    | succ n => simp [List.replicate_succ]
  rw [if_neg (by rw [this]; simp), ← h.done]
theorem Rn.next {s : WS} {L : Nat} (h : Rn s L) (m : Nat) {i : Nat} (hi : i < L) : recvS (stA s m i).s (stA s m i).m ((askedS s).getD i q0).part (ansK ((askedS s).getD i q0)) ((askedS s).getD i q0).req ((askedS s).getD i q0).id = stA s m (i + 1) := by
  have hi2 : i < s.ps.length := by rw [← h.len]; exact hi
  have h0 : stA s m i = ⟨ordS s i, [], m⟩ := by unfold stA; rw [if_pos hi2]
  rw [h0, asked_at s hi2]
  have := recv_ord h.wf (by have := h.round; omega) h.ended hi2 m
  simp only
  rw [this]
  unfold stA outR
  by_cases e : i + 1 = s.ps.length
  · rw [if_pos e, if_neg (show ¬ i + 1 < s.ps.length by omega)]
  · rw [if_neg e, if_pos (show i + 1 < s.ps.length by omega)]
/-- a question answered, whenever -/
theorem Rn.any {s : WS} {L : Nat} (h : Rn s L) (m : Nat) {D : List Bool} (hD : D.length = L) (ha : D.all id = false) {k : Nat} (hk : k < L) : recvS (stB s m D).s (stB s m D).m ((askedS s).getD k q0).part (ansK ((askedS s).getD k q0)) ((askedS s).getD k q0).req ((askedS s).getD k q0).id = stB s m (D.set k true) := by
  have hk2 : k < s.ps.length := by rw [← h.len]; exact hk
  have h0 : stB s m D = ⟨{ s with done := D }, [], m⟩ := by unfold stB; rw [if_neg (by rw [ha]; simp)]
  rw [h0, asked_at s hk2]
  have hw := h.wfD hD
  have hkd : ansK (qAt s k) = wantK { s with done := D } := by
    have h1 : (qAt s k).kind = if s.round = 1 then 1 else 2 := rfl
    have h2 : wantK { s with done := D } = if s.round = 2 then 6 else 5 := rfl
    unfold ansK
    rw [h1, h2]
    rcases h.round with e | e
    · rw [if_pos e, if_neg (by decide), if_neg (by omega)]
    · rw [if_neg (show ¬ s.round = 1 by omega), if_pos rfl, if_pos e]
  simp only
  unfold recvS
  rw [if_neg (by rw [hkd]; have := h.round; simp [h.ended, qAt]; omega)]
  cases hd : D.getD k true with
  | true =>
    have hh : hitI { s with done := D } (qAt s k).part (qAt s k).req = none := hit_done hw hk2 hd
    rw [hh]
    have hset : D.set k true = D := by
      apply List.ext_getElem?
      intro i
      rw [List.getElem?_set]
      split
      · rename_i e; subst e
        have : k < D.length := by omega
        rw [if_pos this]
        rw [List.getD_eq_getElem?_getD, List.getElem?_eq_getElem this] at hd
        rw [List.getElem?_eq_getElem this]
        simp at hd
        rw [hd]
      · rfl
    rw [hset]
    unfold stB
    rw [if_neg (by rw [ha]; simp)]
  | false =>
    have hh : hitI { s with done := D } (qAt s k).part (qAt s k).req = some k := hit_at hw hk2 hd
    rw [hh]
    simp only
    unfold doneS stB outR
    simp only
    by_cases e : (D.set k true).all id = true
    · rw [if_pos e, if_pos e]
      by_cases e2 : s.round = 2
      · rw [if_pos e2, if_pos e2]
        have : D.set k true = (ordS s s.ps.length).done := by
          unfold ordS
          simp only [Nat.sub_self, List.replicate_zero, List.append_nil]
          apply List.eq_replicate_iff.2
          refine ⟨by simp [hD, h.len], fun b hb => ?_⟩
          exact (List.all_eq_true.1 e) b hb
        rw [this]
        rfl
      · rw [if_neg e2, if_neg e2]
        rfl
    · rw [if_neg e, if_neg e]
/-- what answers one of these questions -/
def rightQ (qs : List Qn) (part k : Int) (req id : Nat) : Bool := qs.any fun q => decide (req = q.req) && decide (part = q.part) && decide (id = q.id) && decide (k = ansK q)
theorem Rn.odd {s : WS} {L : Nat} (h : Rn s L) (m : Nat) {D : List Bool} (hD : D.length = L) (ha : D.all id = false) (part k : Int) (req i : Nat) (hr : rightQ (askedS s) part k req i = false) : recvS (stB s m D).s (stB s m D).m part k req i = stB s m D := by
  have h0 : stB s m D = ⟨{ s with done := D }, [], m⟩ := by unfold stB; rw [if_neg (by rw [ha]; simp)]
  rw [h0]
  simp only
  unfold recvS
  split
  · rfl
  · rename_i hc
    simp only [not_or, Classical.not_not] at hc
    obtain ⟨c1, c2, c3, c4⟩ := hc
    cases hh : hitI { s with done := D } part req with
    | none => rfl
    | some x =>
      exfalso
      obtain ⟨g1, g2, g3, g4⟩ := hit_some hh
      have : rightQ (askedS s) part k req i = true := by
        unfold rightQ
        rw [List.any_eq_true]
        refine ⟨qAt s x, ?_, ?_⟩
        · unfold askedS; exact List.mem_map.2 ⟨x, List.mem_range.2 g1, rfl⟩
        · have hkd : ansK (qAt s x) = wantK { s with done := D } := by
            have h1 : (qAt s x).kind = if s.round = 1 then 1 else 2 := rfl
            have h2 : wantK { s with done := D } = if s.round = 2 then 6 else 5 := rfl
            unfold ansK
            rw [h1, h2]
            rcases h.round with e | e
            · rw [if_pos e, if_neg (by decide), if_neg (by omega)]
            · rw [if_neg (show ¬ s.round = 1 by omega), if_pos rfl, if_pos e]
          simp only [Bool.and_eq_true, decide_eq_true_eq]
          exact ⟨⟨⟨g4.symm, g3.symm⟩, c4⟩, by rw [hkd]; exact c3⟩
      rw [hr] at this; cases this
/-- how many are left -/
def left (D : List Bool) : Nat := (D.filter fun b => !b).length
theorem left_zero {D : List Bool} (h : left D = 0) : D.all id = true := by
  unfold left at h
  rw [List.length_eq_zero_iff, List.filter_eq_nil_iff] at h
  rw [List.all_eq_true]
  intro x hx
  have := h x hx
  simpa using this
theorem left_pos {D : List Bool} (h : 0 < left D) : D.all id = false := by
  cases e : D.all id with
  | false => rfl
  | true =>
    have : left D = 0 := by
      unfold left
      rw [List.length_eq_zero_iff, List.filter_eq_nil_iff]
      intro x hx
      have := (List.all_eq_true.1 e) x hx
      simpa using this
    omega
theorem left_set : ∀ (D : List Bool) (k : Nat), k < D.length → D.getD k true = false → left (D.set k true) + 1 = left D
  | [], k, hk, _ => by simp at hk
  | b :: D, 0, _, h => by
    simp at h; subst h
    simp [left]
  | b :: D, k + 1, hk, h => by
    have := left_set D k (by simpa using hk) (by simpa using h)
    unfold left at this ⊢
    cases b <;> simp [List.set_cons_succ] at this ⊢ <;> omega
theorem left_rep (L : Nat) : left (List.replicate L false) = L := by
  unfold left; rw [List.filter_eq_self.2 (by intro a ha; rw [List.eq_of_mem_replicate ha]; rfl)]; simp
theorem left_le (D : List Bool) : left D ≤ D.length := List.length_filter_le _ _
theorem left_find {D : List Bool} (h : 0 < left D) : ∃ k, k < D.length ∧ D.getD k true = false := by
  unfold left at h
  obtain ⟨x, hx⟩ := List.exists_mem_of_length_pos h
  obtain ⟨h1, h2⟩ := List.mem_filter.1 hx
  obtain ⟨k, hk, rfl⟩ := List.getElem_of_mem h1
  exact ⟨k, hk, by simp [List.getD_eq_getElem?_getD, hk]; simpa using h2⟩
theorem again_left {s : WS} {L : Nat} (h : Rn s L) (m : Nat) {D : List Bool} (hD : D.length = L) (ha : D.all id = false) : (againS (stB s m D).s).length = left D := by
  have h0 : stB s m D = ⟨{ s with done := D }, [], m⟩ := by unfold stB; rw [if_neg (by rw [ha]; simp)]
  rw [h0]
  unfold againS
  rw [if_neg (by have := h.round; simp [h.ended]; omega), List.length_map]
  show ((List.range s.ps.length).filter fun i => !(D.getD i true)).length = left D
  rw [← h.len, ← hD]
  unfold left
  have : ∀ D : List Bool, ((List.range D.length).filter fun i => !(D.getD i true)).length = (D.filter fun b => !b).length := by
    intro D
    induction D with
    | nil => rfl
    | cons b D ih =>
      rw [List.length_cons, List.range_succ_eq_map, List.filter_cons, List.filter_map, List.filter_cons]
      have e : ((fun i => !((b :: D).getD i true)) ∘ Nat.succ) = fun i => !(D.getD i true) := by funext i; rfl
      rw [e]
      cases b <;> simp at ih ⊢ <;> exact ih
  exact this D
end Go.Proofs.Ytghnhkhhpeoheaa
