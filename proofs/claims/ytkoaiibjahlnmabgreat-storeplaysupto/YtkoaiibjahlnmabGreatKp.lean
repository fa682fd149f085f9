import Derived.Test.YtkoaiibjahlnmabGreatPo
import Derived.Test.YtkoaiibjahlnmabGreatCB
/- The chapter's first two examples, in pure functions. -/
namespace Go.Proofs.YtkoaiibjahlnmabGreat
open Go.RowKit Go.Maps Go.Sort Orl
set_option linter.unusedVariables false
set_option linter.unusedSimpArgs false
namespace Kw
def a : Tx := ⟨#[97]⟩
def b : Tx := ⟨#[98]⟩
def c : Tx := ⟨#[99]⟩
def x : Tx := ⟨#[120]⟩
def y : Tx := ⟨#[121]⟩
def z : Tx := ⟨#[122]⟩
theorem ab : a ≠ b := by decide
theorem ac : a ≠ c := by decide
theorem bc : b ≠ c := by decide
theorem lab : lts a b = true := by rw [lts_eq]; decide
theorem lac : lts a c = true := by rw [lts_eq]; decide
def i1 : Nat := 65536
def i2 : Nat := 131072
def P1 : List Pr := [(a, x), (b, y)]
def P2 : List Pr := [(a, z)]
def s1 : St := putAll i1 [a, b] 5 St.new P1
def s2 : St := commitS s1 i1 6
def s3 : St := putAll i2 [a, c] 7 s2 P2
def s4 : St := commitS s3 i2 9
theorem s1_V (m : Mk) : s1.V m = if m = (b, i1) then some ⟨y, [a, b], -1⟩ else if m = (a, i1) then some ⟨x, [a, b], -1⟩ else none := rfl
theorem s1_last (k : Tx) : s1.last k = 0 := rfl
theorem s1_up (k : Tx) : upB s1 i1 k = true ↔ k = a ∨ k = b := by
  rw [upB_iff, s1_last, s1_V]
  by_cases hb : k = b
  · subst hb; simp [i1]
  · by_cases ha : k = a
    · subst ha; simp [i1, hb]
    · simp [ha, hb]
theorem s2_V (m : Mk) : s2.V m = s1.V m := by
  show (commitS s1 i1 6).V m = _
  rw [com_V]
  split
  · rename_i h
    rw [s1_V, if_neg (fun e => by rw [e] at h; exact Nat.lt_irrefl _ h.2), if_neg (fun e => by rw [e] at h; exact Nat.lt_irrefl _ h.2)]
    rfl
  · rfl
theorem s2_last (k : Tx) : s2.last k = if k = a ∨ k = b then i1 else 0 := by
  show (commitS s1 i1 6).last k = _
  rw [com_last]
  simp only [s1_up, s1_last]
theorem s3_V (m : Mk) : s3.V m = if m = (a, i2) then some ⟨z, [a, c], -1⟩ else s1.V m := by
  show (if m = (a, i2) then some (⟨z, [a, c], stampOf s2 i2 7 a⟩ : Vr) else s2.V m) = _
  rw [s2_V]
  have : stampOf s2 i2 7 a = -1 := by
    unfold stampOf
    rw [s2_last]
    have h1 : (if a = a ∨ a = b then i1 else 0) = i1 := if_pos (.inl rfl)
    rw [h1, if_neg (by decide)]
  rw [this]
theorem s3_last (k : Tx) : s3.last k = s2.last k := rfl
theorem i12 : i1 ≠ i2 := by decide
theorem s3_up (k : Tx) : upB s3 i2 k = true ↔ k = a := by
  rw [upB_iff, s3_last, s2_last, s3_V, s1_V]
  constructor
  · rintro ⟨h1, _⟩
    by_cases ha : k = a
    · exact ha
    · exfalso
      apply h1
      rw [if_neg (fun e => ha (congrArg Prod.fst e)), if_neg (fun e => i12 (congrArg Prod.snd e).symm), if_neg (fun e => ha (congrArg Prod.fst e))]
  · rintro rfl
    exact ⟨by simp, by simp [i1, i2]⟩
theorem s4_last (k : Tx) : s4.last k = if k = a then i2 else if k = b then i1 else 0 := by
  show (commitS s3 i2 9).last k = _
  rw [com_last]
  simp only [s3_up, s3_last, s2_last]
  by_cases ha : k = a
  · simp [ha]
  · simp [ha]
theorem s4_V (m : Mk) : s4.V m = if m = (a, i1) then some ⟨x, [a, b], 9⟩ else if m = (a, i2) then some ⟨z, [a, c], -1⟩ else if m = (b, i1) then some ⟨y, [a, b], -1⟩ else none := by
  show (commitS s3 i2 9).V m = _
  rw [com_V]
  simp only [s3_up]
  obtain ⟨k, i⟩ := m
  by_cases h1 : (k, i) = (a, i1)
  · have e1 : k = a := congrArg Prod.fst h1
    have e2 : i = i1 := congrArg Prod.snd h1
    subst e1 e2
    rw [if_pos ⟨rfl, by decide⟩, if_pos rfl, s3_V, if_neg (fun e => i12 (congrArg Prod.snd e)), s1_V, if_neg (fun e => ab (congrArg Prod.fst e)), if_pos rfl]
    rfl
  · rw [if_neg h1]
    by_cases h2 : (k, i) = (a, i2)
    · have e1 : k = a := congrArg Prod.fst h2
      have e2 : i = i2 := congrArg Prod.snd h2
      subst e1 e2
      rw [if_neg (fun e => Nat.lt_irrefl _ e.2), if_pos rfl, s3_V, if_pos rfl]
    · rw [if_neg h2]
      have e3 : s3.V (k, i) = if (k, i) = (b, i1) then some ⟨y, [a, b], -1⟩ else none := by
        rw [s3_V, if_neg h2, s1_V]
        by_cases h3 : (k, i) = (b, i1)
        · rw [if_pos h3, if_pos h3]
        · rw [if_neg h3, if_neg h3, if_neg h1]
      split
      · rename_i h
        rw [e3, if_neg (fun e => ab (h.1.symm.trans (congrArg Prod.fst e)))]
        rfl
      · exact e3
theorem ok1 : okPut i1 P1 [a, b] 5 = true := by
  have h1 : okKeys [a, b] = true := by
    rw [okKeys_iff]
    refine ⟨by simp, fun k hk => ?_, ?_⟩
    · simp at hk; rcases hk with rfl | rfl <;> decide
    · exact List.pairwise_cons.2 ⟨fun q hq => by simp at hq; subst hq; exact lab, by simp⟩
  rw [okPut_iff]
  refine ⟨by decide, h1, ?_, by decide⟩
  rw [okPairs_iff]
  refine ⟨fun p hp => ?_, by decide, ?_⟩
  · simp [P1] at hp
    rcases hp with rfl | rfl
    · exact ⟨by decide, by simp⟩
    · exact ⟨by decide, by simp⟩
  · exact List.pairwise_cons.2 ⟨fun q hq => by simp at hq; subst hq; exact lab, by simp⟩
theorem ok2 : okPut i2 P2 [a, c] 7 = true := by
  have h1 : okKeys [a, c] = true := by
    rw [okKeys_iff]
    refine ⟨by simp, fun k hk => ?_, ?_⟩
    · simp at hk; rcases hk with rfl | rfl <;> decide
    · exact List.pairwise_cons.2 ⟨fun q hq => by simp at hq; subst hq; exact lac, by simp⟩
  rw [okPut_iff]
  refine ⟨by decide, h1, ?_, by decide⟩
  rw [okPairs_iff]
  refine ⟨fun p hp => ?_, by decide, ?_⟩
  · simp [P2] at hp
    subst hp
    exact ⟨by decide, by simp⟩
  · exact List.pairwise_cons.2 ⟨fun q hq => by simp at hq, by simp⟩
theorem miss1 : miss St.new i1 P1 = P1 := rfl
theorem miss1' : miss s1 i1 P1 = [] := by
  unfold miss
  rw [List.filter_eq_nil_iff]
  intro p hp
  simp [P1] at hp
  rcases hp with rfl | rfl
  · rw [s1_V, if_neg (fun e => ab (congrArg Prod.fst e)), if_pos rfl]; simp
  · rw [s1_V, if_pos rfl]; simp
theorem miss2 : miss s2 i2 P2 = P2 := by
  unfold miss
  rw [List.filter_eq_self]
  intro p hp
  simp [P2] at hp
  subst hp
  rw [s2_V, s1_V, if_neg (fun e => ab (congrArg Prod.fst e)), if_neg (fun e => i12 (congrArg Prod.snd e).symm)]
  rfl
theorem count_eq {s : St} {i n : Nat} (h : CountOf s i n) {l : List Tx} (hn : l.Nodup) (hl : ∀ k, k ∈ l ↔ s.V (k, i) ≠ none) : n = l.length := by
  obtain ⟨r, rfl, h1, h2⟩ := h
  exact (perm_of h1 hn (fun k => (h2 k).trans (hl k).symm)).length_eq
theorem count1 {n : Nat} (h : CountOf s1 i1 n) : n = 2 := by
  refine count_eq h (l := [a, b]) (by simp [ab]) (fun k => ?_)
  rw [s1_V]
  by_cases hb : k = b
  · subst hb; simp
  · by_cases ha : k = a
    · subst ha; simp [hb]
    · simp [ha, hb]
theorem count2 {n : Nat} (h : CountOf s3 i2 n) : n = 1 := by
  refine count_eq h (l := [a]) (by simp) (fun k => ?_)
  rw [s3_V, s1_V]
  by_cases ha : k = a
  · subst ha; simp
  · simp [ha, Ne.symm i12]
theorem inc_eq {l1 l2 : List Mk} (h1 : Inc ltM l1) (h2 : Inc ltM l2) (h : ∀ m, m ∈ l1 ↔ m ∈ l2) : l1 = l2 := inc_ext swoM h1 h2 h
theorem kept4 {ks : List KV} (h : IsKs s4 ks) (hi : Inc ltM (ks.map (·.m))) (hall : ∀ m, s4.V m ≠ none → m ∈ ks.map (·.m)) : ∃ k0 k1 k2, ks = [k0, k1, k2] ∧ k0.stamp = 9 ∧ k1.stamp = -1 ∧ k2.stamp = -1 := by
  have e : ks.map (·.m) = [(a, i1), (a, i2), (b, i1)] := by
    refine inc_eq hi ?_ (fun m => ?_)
    · have l1 : ltM (a, i1) (a, i2) = true := ltM_iff.2 (.inr ⟨rfl, by decide⟩)
      have l2 : ∀ i j, ltM (a, i) (b, j) = true := fun i j => ltM_iff.2 (.inl lab)
      exact List.pairwise_cons.2 ⟨fun q hq => by simp at hq; rcases hq with rfl | rfl; exact l1; exact l2 _ _, List.pairwise_cons.2 ⟨fun q hq => by simp at hq; subst hq; exact l2 _ _, by simp⟩⟩
    · constructor
      · intro hm
        obtain ⟨q, hq, rfl⟩ := List.mem_map.1 hm
        have hv := h q hq
        rw [s4_V] at hv
        split at hv
        · rename_i e; simp [e]
        · split at hv
          · rename_i e; simp [e]
          · split at hv
            · rename_i e; simp [e]
            · cases hv
      · intro hm
        apply hall
        rw [s4_V]
        simp at hm
        rcases hm with rfl | rfl | rfl
        · simp
        · simp [ab, i12, Ne.symm i12]
        · simp [Ne.symm ab]
  have hl : ks.length = 3 := by
    have := congrArg List.length e
    simpa using this
  obtain ⟨k0, k1, k2, rfl⟩ : ∃ k0 k1 k2, ks = [k0, k1, k2] := by
    cases ks with
    | nil => simp at hl
    | cons k0 r => cases r with
      | nil => simp at hl
      | cons k1 r => cases r with
        | nil => simp at hl
        | cons k2 r => cases r with
          | nil => exact ⟨k0, k1, k2, rfl⟩
          | cons _ _ => simp at hl
  · simp at e
    obtain ⟨m0, m1, m2⟩ := e
    have h0 := h k0 (by simp)
    have h1 := h k1 (by simp)
    have h2 := h k2 (by simp)
    rw [m0, s4_V, if_pos rfl] at h0
    rw [m1, s4_V, if_neg (fun e => i12 (congrArg Prod.snd e).symm), if_pos rfl] at h1
    rw [m2, s4_V, if_neg (fun e => ab (congrArg Prod.fst e).symm), if_neg (fun e => ab (congrArg Prod.fst e).symm), if_pos rfl] at h2
    refine ⟨k0, k1, k2, rfl, ?_, ?_, ?_⟩
    · injection h0 with h0; injection h0 with _ _ h0; exact h0.symm
    · injection h1 with h1; injection h1 with _ _ h1; exact h1.symm
    · injection h2 with h2; injection h2 with _ _ h2; exact h2.symm
theorem s4_a : s4.V (a, s4.last a) = some ⟨z, [a, c], -1⟩ := by
  rw [s4_last, if_pos rfl, s4_V, if_neg (fun e => i12 (congrArg Prod.snd e).symm), if_pos rfl]
theorem s4_b : s4.last b = 65536 := by rw [s4_last, if_neg (Ne.symm ab), if_pos rfl]; rfl
theorem drop1 : dropE s4 (a, i2) = 1 := by
  unfold dropE
  rw [s4_V, if_neg (fun e => i12 (congrArg Prod.snd e).symm), if_pos rfl]
  rfl
theorem drop2 : dropE s4 (c, i2) = 110 := by
  unfold dropE
  rw [s4_V, if_neg (fun e => ac (congrArg Prod.fst e).symm), if_neg (fun e => ac (congrArg Prod.fst e).symm), if_neg (fun e => bc (congrArg Prod.fst e).symm)]
end Kw
end Go.Proofs.YtkoaiibjahlnmabGreat
