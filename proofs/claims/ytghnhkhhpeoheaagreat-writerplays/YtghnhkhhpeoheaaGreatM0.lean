/- A writer, in pure lists. -/
import Derived.Test.YtghnhkhhpeoheaaGreatS1
namespace Go.Proofs.YtghnhkhhpeoheaaGreat
open Go.RowKit Go.Sort Orl
set_option linter.unusedVariables false
set_option linter.unusedSimpArgs false

abbrev Pp := Nat × List Pr
def pp0 : Pp := (0, [])
/-- a write under way: req: the number of this round's first question -/
structure WS where
  id : Nat
  ps : List Pp
  keys : List Tx
  round : Nat
  ended : Nat
  done : List Bool
  req : Nat
def w64 (n : Nat) : Nat := n % 18446744073709551616
def qAt (s : WS) (i : Nat) : Qn := ⟨((s.ps.getD i pp0).1 : Nat), if s.round = 1 then 1 else 2, ((s.id % 65536 : Nat) : Int), w64 (s.req + i), s.id, if s.round = 1 then (s.ps.getD i pp0).2 else [], if s.round = 1 then s.keys else []⟩
def askedS (s : WS) : List Qn := (List.range s.ps.length).map (qAt s)
def askS (s : WS) (m : Nat) : WS := { s with round := s.round + 1, done := List.replicate s.ps.length false, req := m }
/-- the number behind so many -/
def numS (s : WS) (m : Nat) : Nat := w64 (m + s.ps.length)
structure Out where
  s : WS
  told : List Qn
  m : Nat
def beginS (s : WS) (m : Nat) : Out := if s.round = 0 ∧ s.ended = 0 then ⟨askS s m, askedS (askS s m), numS s m⟩ else ⟨s, [], m⟩
def hitB (s : WS) (part : Int) (req : Nat) (i : Nat) : Bool := !(s.done.getD i true) && decide (((s.ps.getD i pp0).1 : Int) = part) && decide (w64 (s.req + i) = req)
def hitI (s : WS) (part : Int) (req : Nat) : Option Nat := (List.range s.ps.length).find? (hitB s part req)
def wantK (s : WS) : Int := if s.round = 2 then 6 else 5
def doneS (s : WS) (i m : Nat) : Out :=
  if (s.done.set i true).all id = true then (if s.round = 2 then ⟨{ s with done := s.done.set i true, ended := 1 }, [], m⟩ else ⟨askS { s with done := s.done.set i true } m, askedS (askS { s with done := s.done.set i true } m), numS s m⟩)
  else ⟨{ s with done := s.done.set i true }, [], m⟩
def recvS (s : WS) (m : Nat) (part kind : Int) (req id : Nat) : Out :=
  if s.round = 0 ∨ ¬ s.ended = 0 ∨ ¬ kind = wantK s ∨ ¬ id = s.id then ⟨s, [], m⟩
  else match hitI s part req with
    | none => ⟨s, [], m⟩
    | some i => doneS s i m
def againS (s : WS) : List Qn := if s.round = 0 ∨ ¬ s.ended = 0 then [] else ((List.range s.ps.length).filter fun i => !(s.done.getD i true)).map (qAt s)
def giveS (s : WS) : WS := if s.ended = 0 then { s with ended := if s.round = 2 then 4 else 3 } else s
def newS (id : Nat) (ps : List Pp) (keys : List Tx) : WS := ⟨id, ps, keys, 0, 0, [], 0⟩
/-- what a writer's state keeps to -/
structure WfS (s : WS) : Prop where
  lo : 65536 ≤ s.id
  hi : s.id < 18446744073709551616
  pos : 1 ≤ s.ps.length
  most : s.ps.length ≤ 64
  part : ∀ p ∈ s.ps, p.1 < 64 ∧ p.2.length ≤ 1024
  keys : s.keys.length ≤ 1024
  round : s.round ≤ 2
  done : s.round ≠ 0 → s.done.length = s.ps.length
  ended : s.ended ≤ 4
theorem w64_lt (n : Nat) : w64 n < 18446744073709551616 := Nat.mod_lt _ (by decide)
theorem w64_of {n : Nat} (h : n < 18446744073709551616) : w64 n = n := Nat.mod_eq_of_lt h
theorem WfS.ask {s : WS} (h : WfS s) (m : Nat) (hr : s.round ≤ 1) : WfS (askS s m) := ⟨h.lo, h.hi, h.pos, h.most, h.part, h.keys, by show s.round + 1 ≤ 2; omega, fun _ => by simp [askS], h.ended⟩
theorem WfS.qfit {s : WS} (h : WfS s) {i : Nat} (hi : i < s.ps.length) : FitQ (qAt s i) := by
  have hp := h.part _ (getD_mem_lt pp0 hi)
  refine ⟨w64_lt _, h.hi, ⟨?_, ?_⟩, ?_, ?_⟩
  · show (0 : Int) ≤ ((s.ps.getD i pp0).1 : Nat)
    omega
  · show (((s.ps.getD i pp0).1 : Nat) : Int) ≤ 64
    omega
  · show (if s.round = 1 then (s.ps.getD i pp0).2 else []).length ≤ 2000
    split
    · omega
    · simp
  · show (if s.round = 1 then s.keys else []).length ≤ 2000
    split
    · have := h.keys; omega
    · simp
theorem asked_len (s : WS) : (askedS s).length = s.ps.length := by unfold askedS; simp
theorem asked_at (s : WS) {i : Nat} (hi : i < s.ps.length) : (askedS s).getD i q0 = qAt s i := by
  unfold askedS; simp [List.getD_eq_getElem?_getD, hi]
theorem WfS.fit {s : WS} (h : WfS s) : FitQs (askedS s) := ⟨by rw [asked_len]; exact h.most, fun q hq => by
  unfold askedS at hq
  obtain ⟨i, hi, rfl⟩ := List.mem_map.1 hq
  exact h.qfit (List.mem_range.1 hi)⟩
theorem WfS.fitA {s : WS} (h : WfS s) : FitQs (againS s) := by
  unfold againS
  split
  · exact ⟨by simp, fun q hq => by cases hq⟩
  · refine ⟨?_, fun q hq => ?_⟩
    · rw [List.length_map]
      refine Nat.le_trans (List.length_filter_le _ _) ?_
      rw [List.length_range]; exact h.most
    · obtain ⟨i, hi, rfl⟩ := List.mem_map.1 hq
      exact h.qfit (List.mem_range.1 (List.mem_filter.1 hi).1)
theorem WfS.begin {s : WS} (h : WfS s) (m : Nat) : WfS (beginS s m).s ∧ FitQs (beginS s m).told := by
  unfold beginS
  split
  · rename_i hc
    have h2 := h.ask m (by omega)
    exact ⟨h2, h2.fit⟩
  · exact ⟨h, by simp, fun q hq => by cases hq⟩
theorem WfS.setD {s : WS} (h : WfS s) (i : Nat) (e : Nat) (he : e ≤ 4) : WfS { s with done := s.done.set i true, ended := e } := ⟨h.lo, h.hi, h.pos, h.most, h.part, h.keys, h.round, fun hr => by simp [h.done hr], he⟩
theorem WfS.recv {s : WS} (h : WfS s) (m : Nat) (part kind : Int) (req id : Nat) : WfS (recvS s m part kind req id).s ∧ FitQs (recvS s m part kind req id).told := by
  have hn : FitQs ([] : List Qn) := ⟨by simp, fun q hq => by cases hq⟩
  unfold recvS
  split
  · exact ⟨h, hn⟩
  · split
    · exact ⟨h, hn⟩
    · rename_i i _
      unfold doneS
      split
      · split
        · exact ⟨h.setD i 1 (by omega), hn⟩
        · rename_i hr
          have h2 := (h.setD i s.ended h.ended).ask m (by have := h.round; show s.round ≤ 1; omega)
          exact ⟨h2, h2.fit⟩
      · exact ⟨h.setD i s.ended h.ended, hn⟩
theorem WfS.give {s : WS} (h : WfS s) : WfS (giveS s) := by
  unfold giveS
  split
  · exact ⟨h.lo, h.hi, h.pos, h.most, h.part, h.keys, h.round, h.done, by show (if s.round = 2 then 4 else 3) ≤ 4; split <;> omega⟩
  · exact h
/-! ### the round's answers in their order -/
/-- the first i questions of this round are answered -/
def ordS (s : WS) (i : Nat) : WS := { s with done := List.replicate i true ++ List.replicate (s.ps.length - i) false }
theorem ask_ord (s : WS) (m : Nat) : askS s m = ordS (askS s m) 0 := by unfold ordS askS; simp
theorem ord_done (s : WS) (i j : Nat) (hi : i ≤ s.ps.length) (hj : j < s.ps.length) : (ordS s i).done.getD j true = decide (j < i) := by
  unfold ordS
  simp only
  rw [getD_app, List.length_replicate]
  by_cases h : j < i
  · rw [if_pos h, decide_eq_true h]; simp [List.getD_eq_getElem?_getD, List.getElem?_replicate, h]
  · rw [if_neg h, decide_eq_false h]
    have : j - i < s.ps.length - i := by omega
    simp [List.getD_eq_getElem?_getD, List.getElem?_replicate, this]
theorem ord_set (s : WS) (i : Nat) (hi : i < s.ps.length) : (ordS s i).done.set i true = (ordS s (i + 1)).done := by
  unfold ordS
  simp only
  rw [List.set_append_right _ _ (by simp), List.length_replicate, Nat.sub_self, show s.ps.length - i = (s.ps.length - (i + 1)) + 1 by omega, List.replicate_succ, List.set_cons_zero, List.replicate_succ', List.append_assoc]
  rfl
theorem ord_all (s : WS) (i : Nat) (hi : i ≤ s.ps.length) : ((ordS s i).done.all id = true) ↔ i = s.ps.length := by
  unfold ordS
  simp only [List.all_append, Bool.and_eq_true, List.all_replicate]
  constructor
  · rintro ⟨_, h⟩
    by_cases e : s.ps.length - i = 0
    · omega
    · simp [e] at h
  · intro e
    subst e
    simp
theorem req_inj {a i j L : Nat} (hi : i < L) (hj : j < L) (hL : L ≤ 64) (h : w64 (a + i) = w64 (a + j)) : i = j := by
  unfold w64 at h; omega
/-- the question that is answered is found -/
theorem hit_at {s : WS} (h : WfS s) {i : Nat} (hi : i < s.ps.length) (hd : s.done.getD i true = false) : hitI s ((s.ps.getD i pp0).1 : Nat) (w64 (s.req + i)) = some i := by
  unfold hitI
  have key : ∀ j, j < s.ps.length → (hitB s ((s.ps.getD i pp0).1 : Nat) (w64 (s.req + i)) j = true ↔ j = i) := by
    intro j hj
    unfold hitB
    simp only [Bool.and_eq_true, decide_eq_true_eq, Bool.not_eq_true']
    constructor
    · rintro ⟨_, e⟩; exact req_inj hj hi h.most e
    · rintro rfl; exact ⟨⟨hd, rfl⟩, rfl⟩
  cases hf : (List.range s.ps.length).find? (hitB s ((s.ps.getD i pp0).1 : Nat) (w64 (s.req + i))) with
  | none =>
    have := List.find?_eq_none.1 hf i (List.mem_range.2 hi)
    rw [(key i hi).2 rfl] at this
    exact absurd rfl this
  | some j =>
    have h1 := List.find?_some hf
    have h2 := List.mem_range.1 (List.mem_of_find?_eq_some hf)
    rw [(key j h2).1 h1]
/-- a question that is answered already isn't found -/
theorem hit_done {s : WS} (h : WfS s) {i : Nat} (hi : i < s.ps.length) (hd : s.done.getD i true = true) : hitI s ((s.ps.getD i pp0).1 : Nat) (w64 (s.req + i)) = none := by
  unfold hitI
  rw [List.find?_eq_none]
  intro j hj
  have hj2 := List.mem_range.1 hj
  unfold hitB
  simp only [Bool.and_eq_true, decide_eq_true_eq, Bool.not_eq_true']
  rintro ⟨⟨h1, _⟩, e⟩
  have := req_inj hj2 hi h.most e
  subst this
  rw [hd] at h1; cases h1
theorem hit_some {s : WS} {part : Int} {req i : Nat} (h : hitI s part req = some i) : i < s.ps.length ∧ s.done.getD i true = false ∧ ((s.ps.getD i pp0).1 : Int) = part ∧ w64 (s.req + i) = req := by
  unfold hitI at h
  have h1 := List.find?_some h
  have h2 := List.mem_range.1 (List.mem_of_find?_eq_some h)
  unfold hitB at h1
  simp only [Bool.and_eq_true, decide_eq_true_eq, Bool.not_eq_true'] at h1
  exact ⟨h2, h1.1.1, h1.1.2, h1.2⟩
/-- what answers a question -/
def ansK (q : Qn) : Int := if q.kind = 2 then 6 else 5
/-- the i-th question answered, in its order -/
theorem recv_ord {s : WS} (h : WfS s) (hr : s.round ≠ 0) (he : s.ended = 0) {i : Nat} (hi : i < s.ps.length) (m : Nat) : recvS (ordS s i) m (qAt s i).part (ansK (qAt s i)) (qAt s i).req (qAt s i).id = if i + 1 = s.ps.length then (if s.round = 2 then ⟨{ ordS s s.ps.length with ended := 1 }, [], m⟩ else ⟨askS s m, askedS (askS s m), numS s m⟩) else ⟨ordS s (i + 1), [], m⟩ := by
  have hw : WfS (ordS s i) := ⟨h.lo, h.hi, h.pos, h.most, h.part, h.keys, h.round, fun _ => by unfold ordS; simp; omega, h.ended⟩
  have hk : ansK (qAt s i) = wantK (ordS s i) := by
    have h1 : (qAt s i).kind = if s.round = 1 then 1 else 2 := rfl
    have h2 : wantK (ordS s i) = if s.round = 2 then 6 else 5 := rfl
    unfold ansK
    rw [h1, h2]
    have := h.round
    by_cases e : s.round = 1
    · rw [if_pos e, if_neg (by decide), if_neg (by omega)]
    · rw [if_neg e, if_pos rfl, if_pos (by omega)]
  have hh : hitI (ordS s i) (qAt s i).part (qAt s i).req = some i := hit_at hw hi (by rw [ord_done s i i (by omega) hi]; simp)
  unfold recvS
  rw [if_neg (by rw [hk]; simp [ordS, he, hr, qAt]), hh]
  simp only
  unfold doneS
  rw [ord_set s i hi]
  by_cases e : i + 1 = s.ps.length
  · rw [if_pos ((ord_all s (i + 1) (by omega)).2 e), if_pos e, e]
    rfl
  · rw [if_neg (fun hh => e ((ord_all s (i + 1) (by omega)).1 hh)), if_neg e]
    rfl
/-- behind the end nothing counts -/
theorem recv_end {s : WS} (he : ¬ s.ended = 0) (m : Nat) (part kind : Int) (req id : Nat) : recvS s m part kind req id = ⟨s, [], m⟩ := by
  unfold recvS; rw [if_pos (.inr (.inl he))]
theorem again_end {s : WS} (he : ¬ s.ended = 0) : againS s = [] := by unfold againS; rw [if_pos (.inr he)]
theorem begin_end {s : WS} (he : ¬ s.ended = 0) (m : Nat) : beginS s m = ⟨s, [], m⟩ := by unfold beginS; rw [if_neg (fun h => he h.2)]
theorem give_end {s : WS} (he : ¬ s.ended = 0) : giveS s = s := by unfold giveS; rw [if_neg he]
end Go.Proofs.YtghnhkhhpeoheaaGreat
