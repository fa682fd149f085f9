import Derived.Test.YtbnohdgdadfjlaaGreatDoorNH
/- The chapter's examples, in pure functions. -/
namespace Go.Proofs.YtbnohdgdadfjlaaGreatDoor
open Go.RowKit Go.Maps Go.Sort Orl
set_option linter.unusedVariables false
set_option linter.unusedSimpArgs false
namespace Kw
def a : Tx := ⟨#[97]⟩
def b : Tx := ⟨#[98]⟩
def x : Tx := ⟨#[49]⟩
def y : Tx := ⟨#[50]⟩
def z : Tx := ⟨#[51]⟩
theorem ab : a ≠ b := by decide
theorem lab : lts a b = true := by rw [lts_eq]; decide
def i1 : Nat := 65536
def i2 : Nat := 131072
def P1 : List Pr := [(a, x), (b, y)]
def P2 : List Pr := [(a, z)]
def s1 : St := putAll i1 [a, b] 0 St.new P1
def s2 : St := commitS s1 i1 0
def s3 : St := putAll i2 [a] 0 s2 P2
def s4 : St := commitS s3 i2 0
theorem s1_V (m : Mk) : s1.V m = if m = (b, i1) then some ⟨y, [a, b], -1⟩ else if m = (a, i1) then some ⟨x, [a, b], -1⟩ else none := rfl
theorem s1_last (k : Tx) : s1.last k = 0 := rfl
theorem s1_up (k : Tx) : upB s1 i1 k = true ↔ k = a ∨ k = b := by
  rw [upB_iff, s1_last, s1_V]
  by_cases hb : k = b
  · subst hb; simp [i1]
  · by_cases ha : k = a
    · subst ha; simp [i1, hb]
    · simp [ha, hb]
theorem s2_V (m : Mk) : s2.V m = s1.V m := by
  show (commitS s1 i1 0).V m = _
  rw [com_V]
  split
  · rename_i h
    rw [s1_V, if_neg (fun e => by rw [e] at h; exact Nat.lt_irrefl _ h.2), if_neg (fun e => by rw [e] at h; exact Nat.lt_irrefl _ h.2)]
    rfl
  · rfl
theorem s2_last (k : Tx) : s2.last k = if k = a ∨ k = b then i1 else 0 := by
  show (commitS s1 i1 0).last k = _
  rw [com_last]
  simp only [s1_up, s1_last]
theorem s3_V (m : Mk) : s3.V m = if m = (a, i2) then some ⟨z, [a], -1⟩ else s1.V m := by
  show (if m = (a, i2) then some (⟨z, [a], stampOf s2 i2 0 a⟩ : Vr) else s2.V m) = _
  rw [s2_V]
  have : stampOf s2 i2 0 a = -1 := by
    unfold stampOf
    rw [s2_last]
    have h1 : (if a = a ∨ a = b then i1 else 0) = i1 := if_pos (.inl rfl)
    rw [h1, if_neg (by decide)]
  rw [this]
theorem s3_last (k : Tx) : s3.last k = s2.last k := rfl
theorem i12 : i1 ≠ i2 := by decide
theorem s3_up (k : Tx) : upB s3 i2 k = true ↔ k = a := by
  rw [upB_iff, s3_last, s2_last, s3_V, s1_V]
  constructor
  · rintro ⟨h1, _⟩
    by_cases ha : k = a
    · exact ha
    · exfalso
      apply h1
      rw [if_neg (fun e => ha (congrArg Prod.fst e)), if_neg (fun e => i12 (congrArg Prod.snd e).symm), if_neg (fun e => ha (congrArg Prod.fst e))]
  · rintro rfl
    exact ⟨by simp, by simp [i1, i2]⟩
theorem s4_last (k : Tx) : s4.last k = if k = a then i2 else if k = b then i1 else 0 := by
  show (commitS s3 i2 0).last k = _
  rw [com_last]
  simp only [s3_up, s3_last, s2_last]
  by_cases ha : k = a
  · simp [ha]
  · simp [ha]
theorem s4_V (m : Mk) : s4.V m = if m = (a, i1) then some ⟨x, [a, b], 0⟩ else if m = (a, i2) then some ⟨z, [a], -1⟩ else if m = (b, i1) then some ⟨y, [a, b], -1⟩ else none := by
  show (commitS s3 i2 0).V m = _
  rw [com_V]
  simp only [s3_up]
  obtain ⟨k, i⟩ := m
  by_cases h1 : (k, i) = (a, i1)
  · have e1 : k = a := congrArg Prod.fst h1
    have e2 : i = i1 := congrArg Prod.snd h1
    subst e1 e2
    rw [if_pos ⟨rfl, by decide⟩, if_pos rfl, s3_V, if_neg (fun e => i12 (congrArg Prod.snd e)), s1_V, if_neg (fun e => ab (congrArg Prod.fst e)), if_pos rfl]
    rfl
  · rw [if_neg h1]
    by_cases h2 : (k, i) = (a, i2)
    · have e1 : k = a := congrArg Prod.fst h2
      have e2 : i = i2 := congrArg Prod.snd h2
      subst e1 e2
      rw [if_neg (fun e => Nat.lt_irrefl _ e.2), if_pos rfl, s3_V, if_pos rfl]
    · rw [if_neg h2]
      have e3 : s3.V (k, i) = if (k, i) = (b, i1) then some ⟨y, [a, b], -1⟩ else none := by
        rw [s3_V, if_neg h2, s1_V]
        by_cases h3 : (k, i) = (b, i1)
        · rw [if_pos h3, if_pos h3]
        · rw [if_neg h3, if_neg h3, if_neg h1]
      split
      · rename_i h
        rw [e3, if_neg (fun e => ab (h.1.symm.trans (congrArg Prod.fst e)))]
        rfl
      · exact e3
theorem ok1 : okPut i1 P1 [a, b] 0 = true := by
  have h1 : okKeys [a, b] = true := by
    rw [okKeys_iff]
    refine ⟨by simp, fun k hk => ?_, ?_⟩
    · simp at hk; rcases hk with rfl | rfl <;> decide
    · exact List.pairwise_cons.2 ⟨fun q hq => by simp at hq; subst hq; exact lab, by simp⟩
  rw [okPut_iff]
  refine ⟨by decide, h1, ?_, by decide⟩
  rw [okPairs_iff]
  refine ⟨fun p hp => ?_, by decide, ?_⟩
  · simp [P1] at hp
    rcases hp with rfl | rfl
    · exact ⟨by decide, by simp⟩
    · exact ⟨by decide, by simp⟩
  · exact List.pairwise_cons.2 ⟨fun q hq => by simp at hq; subst hq; exact lab, by simp⟩
theorem ok2 : okPut i2 P2 [a] 0 = true := by
  have h1 : okKeys [a] = true := by
    rw [okKeys_iff]
    refine ⟨by simp, fun k hk => ?_, ?_⟩
    · simp at hk; subst hk; decide
    · exact List.pairwise_cons.2 ⟨fun q hq => by simp at hq, by simp⟩
  rw [okPut_iff]
  refine ⟨by decide, h1, ?_, by decide⟩
  rw [okPairs_iff]
  refine ⟨fun p hp => ?_, by decide, ?_⟩
  · simp [P2] at hp
    subst hp
    exact ⟨by decide, by simp⟩
  · exact List.pairwise_cons.2 ⟨fun q hq => by simp at hq, by simp⟩
theorem miss1 : miss St.new i1 P1 = P1 := rfl
theorem miss2 : miss s2 i2 P2 = P2 := by
  unfold miss
  rw [List.filter_eq_self]
  intro p hp
  simp [P2] at hp
  subst hp
  rw [s2_V, s1_V, if_neg (fun e => ab (congrArg Prod.fst e)), if_neg (fun e => i12 (congrArg Prod.snd e).symm)]
  rfl
theorem inc_eq {l1 l2 : List Mk} (h1 : Inc ltM l1) (h2 : Inc ltM l2) (h : ∀ m, m ∈ l1 ↔ m ∈ l2) : l1 = l2 := inc_ext swoM h1 h2 h
def t9 : St := restS 9 s4
theorem t9_last (k : Tx) : t9.last k = if k = a then i2 else if k = b then i1 else 0 := s4_last k
theorem t9_V (m : Mk) : t9.V m = if m = (a, i1) then some ⟨x, [a, b], 9⟩ else if m = (a, i2) then some ⟨z, [a], -1⟩ else if m = (b, i1) then some ⟨y, [a, b], -1⟩ else none := by
  show (s4.V m).map (fun v => (⟨v.val, v.keys, if m.2 < s4.last m.1 then 9 else -1⟩ : Vr)) = _
  rw [s4_V]
  by_cases h1 : m = (a, i1)
  · subst h1
    rw [if_pos rfl, if_pos rfl]
    have : s4.last a = i2 := by rw [s4_last, if_pos rfl]
    simp only [Option.map_some, this]
    rfl
  · rw [if_neg h1, if_neg h1]
    by_cases h2 : m = (a, i2)
    · subst h2
      rw [if_pos rfl]
      have : s4.last a = i2 := by rw [s4_last, if_pos rfl]
      simp only [Option.map_some, this]
      rfl
    · rw [if_neg h2]
      by_cases h3 : m = (b, i1)
      · subst h3
        rw [if_pos rfl]
        have : s4.last b = i1 := by rw [s4_last, if_neg (Ne.symm ab), if_pos rfl]
        simp only [Option.map_some, this]
        rfl
      · rw [if_neg h3]
        rfl
theorem kept9 {ks : List KV} (h : IsKs t9 ks) (hi : Inc ltM (ks.map (·.m))) (hall : ∀ m, t9.V m ≠ none → m ∈ ks.map (·.m)) : ∃ k0 k1 k2, ks = [k0, k1, k2] ∧ k0.stamp = 9 ∧ k1.stamp = -1 ∧ k0.val = x := by
  have e : ks.map (·.m) = [(a, i1), (a, i2), (b, i1)] := by
    refine inc_eq hi ?_ (fun m => ?_)
    · have l1 : ltM (a, i1) (a, i2) = true := ltM_iff.2 (.inr ⟨rfl, by decide⟩)
      have l2 : ∀ i j, ltM (a, i) (b, j) = true := fun i j => ltM_iff.2 (.inl lab)
      exact List.pairwise_cons.2 ⟨fun q hq => by simp at hq; rcases hq with rfl | rfl; exact l1; exact l2 _ _, List.pairwise_cons.2 ⟨fun q hq => by simp at hq; subst hq; exact l2 _ _, by simp⟩⟩
    · constructor
      · intro hm
        obtain ⟨q, hq, rfl⟩ := List.mem_map.1 hm
        have hv := h q hq
        rw [t9_V] at hv
        split at hv
        · rename_i e; simp [e]
        · split at hv
          · rename_i e; simp [e]
          · split at hv
            · rename_i e; simp [e]
            · cases hv
      · intro hm
        apply hall
        rw [t9_V]
        simp at hm
        rcases hm with rfl | rfl | rfl
        · simp
        · simp [ab, i12, Ne.symm i12]
        · simp [Ne.symm ab]
  have hl : ks.length = 3 := by
    have := congrArg List.length e
    simpa using this
  obtain ⟨k0, k1, k2, rfl⟩ : ∃ k0 k1 k2, ks = [k0, k1, k2] := by
    cases ks with
    | nil => simp at hl
    | cons k0 r => cases r with
      | nil => simp at hl
      | cons k1 r => cases r with
        | nil => simp at hl
        | cons k2 r => cases r with
          | nil => exact ⟨k0, k1, k2, rfl⟩
          | cons _ _ => simp at hl
  · simp at e
    obtain ⟨m0, m1, m2⟩ := e
    have h0 := h k0 (by simp)
    have h1 := h k1 (by simp)
    have h2 := h k2 (by simp)
    rw [m0, t9_V, if_pos rfl] at h0
    rw [m1, t9_V, if_neg (fun e => i12 (congrArg Prod.snd e).symm), if_pos rfl] at h1
    rw [m2, t9_V, if_neg (fun e => ab (congrArg Prod.fst e).symm), if_neg (fun e => ab (congrArg Prod.fst e).symm), if_pos rfl] at h2
    refine ⟨k0, k1, k2, rfl, ?_, ?_, ?_⟩
    · injection h0 with h0; injection h0 with _ _ h0; exact h0.symm
    · injection h1 with h1; injection h1 with _ _ h1; exact h1.symm
    · injection h0 with h0; injection h0 with h0 _ _; exact h0.symm
theorem lasts9 {ls : List Mk} (h : IsLs t9 ls) : ls.length = 2 := by
  have e : ls = [(a, i2), (b, i1)] := by
    refine inc_ext swoL (inc_lasts h) (List.pairwise_cons.2 ⟨fun q hq => by simp at hq; subst hq; exact lab, by simp⟩) (fun m => ?_)
    obtain ⟨k, i⟩ := m
    rw [h.2, t9_last]
    constructor
    · rintro ⟨h1, h2⟩
      by_cases ha : k = a
      · subst ha
        rw [if_pos rfl] at h1
        subst h1; simp
      · rw [if_neg ha] at h1
        by_cases hb : k = b
        · subst hb
          rw [if_pos rfl] at h1
          subst h1; simp
        · rw [if_neg hb] at h1
          exact absurd h1.symm h2
    · intro hm
      simp at hm
      rcases hm with ⟨rfl, rfl⟩ | ⟨rfl, rfl⟩
      · rw [if_pos rfl]; exact ⟨rfl, by decide⟩
      · rw [if_neg (Ne.symm ab), if_pos rfl]; exact ⟨rfl, by decide⟩
  rw [e]; rfl
def L2 : List PO := [⟨1, i1, e0, P1, [a, b], 0⟩, ⟨2, i1, e0, [], [], 0⟩]
def L4 : List PO := L2 ++ [⟨1, i2, e0, P2, [a], 0⟩, ⟨2, i2, e0, [], [], 0⟩]
theorem run4 : runO L4 = s4 := by
  show stepO (stepO (stepO (stepO St.new ⟨1, i1, e0, P1, [a, b], 0⟩) ⟨2, i1, e0, [], [], 0⟩) ⟨1, i2, e0, P2, [a], 0⟩) ⟨2, i2, e0, [], [], 0⟩ = s4
  have e1 : stepO St.new ⟨1, i1, e0, P1, [a, b], 0⟩ = s1 := by
    unfold stepO putX
    rw [if_pos rfl]
    simp only
    rw [if_pos ok1, miss1]
    rfl
  have e2 : stepO s1 ⟨2, i1, e0, [], [], 0⟩ = s2 := by
    unfold stepO comX
    rw [if_neg (by decide), if_pos rfl]
    simp only
    rw [if_pos (by decide)]
    rfl
  have e3 : stepO s2 ⟨1, i2, e0, P2, [a], 0⟩ = s3 := by
    unfold stepO putX
    rw [if_pos rfl]
    simp only
    rw [if_pos ok2, miss2]
    rfl
  have e4 : stepO s3 ⟨2, i2, e0, [], [], 0⟩ = s4 := by
    unfold stepO comX
    rw [if_neg (by decide), if_pos rfl]
    simp only
    rw [if_pos (by decide)]
    rfl
  rw [e1, e2, e3, e4]
theorem tld_new {ls : List Mk} {ks : List KV} (h : Tld St.new ls ks) : ls = [] ∧ ks = [] := by
  constructor
  · cases ls with
    | nil => rfl
    | cons l r =>
      have := (h.la.2 l.1 l.2).1 (by simp)
      exact absurd this.1.symm this.2
  · cases ks with
    | nil => rfl
    | cons k r =>
      have := h.is k (by simp)
      cases this
theorem sn_new {b : List Nat} (h : SnOf St.new 1 b) : b = snap 1 [] [] := by
  obtain ⟨ls, ks, h1, rfl⟩ := h
  obtain ⟨rfl, rfl⟩ := tld_new h1
  rfl
end Kw
end Go.Proofs.YtbnohdgdadfjlaaGreatDoor
