/- How a write's pairs are dealt: each once, rising, at its partition. -/
import Derived.Test.YtghnhkhhpeoheaaGreatV1
namespace Go.Proofs.YtghnhkhhpeoheaaGreat
open Go.RowKit Go.Sort Orl
set_option linter.unusedVariables false
set_option linter.unusedSimpArgs false

theorem swoP : SWO ltp where
  irrefl a := swoT.irrefl _
  trans a b c h1 h2 := swoT.trans a.1 b.1 c.1 h1 h2
  ntrans a b c h1 h2 := swoT.ntrans a.1 b.1 c.1 h1 h2
theorem nrm_inc {l : List Pr} (h : (kys l).Nodup) : Inc ltp (nrm l) := by
  have h1 : Weak ltp (nrm l) := isort_weak swoP p0 l
  have h2 : (kys (nrm l)).Nodup := ((nrm_perm l).map Prod.fst).nodup_iff.2 h
  have h3 : (nrm l).Pairwise fun a b => a.1 ≠ b.1 := by
    have := h2
    unfold kys at this
    rw [List.nodup_iff_pairwise_ne, List.pairwise_map] at this
    exact this
  refine List.Pairwise.imp₂ (fun a b hab hne => ?_) h1 h3
  cases hc : ltp a b with
  | true => rfl
  | false => exact absurd (triT _ _ hc hab) hne
theorem nrm_keys {l : List Pr} (h : (kys l).Nodup) : Inc lts (kys (nrm l)) := by
  unfold kys Inc
  rw [List.pairwise_map]
  exact nrm_inc h
theorem own_inc {l : List Pr} (h : (kys l).Nodup) (P j : Nat) : Inc ltp (ownOf P Prod.fst (nrm l) j) := List.Pairwise.filter _ (nrm_inc h)
/-- the partitions rise -/
theorem prt_asc {α : Type} (P : Nat) (key : α → Tx) (l : List α) : ∀ k, (prt P key l k).Pairwise fun a b => a.1 < b.1
  | 0 => List.Pairwise.nil
  | k + 1 => by
    rw [prt, List.pairwise_append]
    refine ⟨prt_asc P key l k, ?_, ?_⟩
    · split <;> simp
    · intro a ha b hb
      have := (prt_mem P key l k a ha).1
      split at hb
      · cases hb
      · rcases List.mem_cons.1 hb with rfl | hb
        · exact this
        · cases hb
def total {α : Type} (g : List (Nat × List α)) : Nat := (g.map fun p => p.2.length).sum
theorem total_app {α : Type} (a b : List (Nat × List α)) : total (a ++ b) = total a + total b := by simp [total]
/-- each once -/
theorem prt_total {α : Type} (P : Nat) (key : α → Tx) (l : List α) : ∀ k, total (prt P key l k) = (l.filter fun x => decide (pl P (key x) < k)).length
  | 0 => by
    rw [List.filter_eq_nil_iff.2 (fun a _ => by simp)]
    rfl
  | k + 1 => by
    rw [prt, total_app, prt_total P key l k]
    have h1 : total (if (ownOf P key l k).isEmpty = true then [] else [(k, ownOf P key l k)]) = (ownOf P key l k).length := by
      split
      · rename_i h
        rw [List.isEmpty_iff] at h
        rw [h]; rfl
      · simp [total]
    rw [h1]
    clear h1
    unfold ownOf
    induction l with
    | nil => rfl
    | cons x l ih =>
      simp only [List.filter_cons]
      by_cases ha : pl P (key x) < k
      · have hb : ¬ pl P (key x) = k := by omega
        have hc : pl P (key x) < k + 1 := by omega
        simp [ha, hb, hc] at ih ⊢
        omega
      · by_cases hb : pl P (key x) = k
        · have hc : pl P (key x) < k + 1 := by omega
          simp [ha, hb, hc] at ih ⊢
          omega
        · have hc : ¬ pl P (key x) < k + 1 := by omega
          simp [ha, hb, hc] at ih ⊢
          omega
theorem grp_total (l : List Pr) {P : Nat} (hP : 1 ≤ P) : total (grpS l P) = l.length := by
  unfold grpS
  rw [prt_total, List.filter_eq_self.2, nrm_length]
  intro x _
  simpa using pl_lt x.1 (by omega)
theorem valI_mem {l : List Pr} (h : (kys l).Nodup) {p : Pr} (hp : p ∈ l) : valI l p.1 = (p.2, true) := by
  have : l.find? (fun q => decide (q.1 = p.1)) = some p := by
    induction l with
    | nil => cases hp
    | cons a l ih =>
      unfold kys at h ih
      rw [List.map_cons, List.nodup_cons] at h
      rcases List.mem_cons.1 hp with rfl | hq
      · simp
      · have hne : ¬ a.1 = p.1 := fun e => h.1 (e ▸ List.mem_map.2 ⟨p, hq, rfl⟩)
        rw [List.find?_cons_of_neg (by simpa using hne)]
        exact ih h.2 hq
  unfold valI
  rw [this]
/-- what a part of a write is -/
structure PartOk (l : List Pr) (P : Nat) (g : Pp) : Prop where
  lt : g.1 < P
  pos : 1 ≤ g.2.length
  inc : Inc ltp g.2
  at_ : ∀ p ∈ g.2, pl P p.1 = g.1 ∧ p ∈ l ∧ valI l p.1 = (p.2, true)
theorem grp_part {l : List Pr} (h : (kys l).Nodup) (P : Nat) : ∀ g ∈ grpS l P, PartOk l P g := by
  intro g hg
  obtain ⟨h1, h2, h3⟩ := prt_mem P Prod.fst (nrm l) P g hg
  refine ⟨h1, List.length_pos_iff.2 h3, by rw [h2]; exact own_inc h P _, fun p hp => ?_⟩
  rw [h2] at hp
  obtain ⟨hq, hr⟩ := List.mem_filter.1 hp
  have hm := (nrm_perm l).mem_iff.1 hq
  exact ⟨by simpa using hr, hm, valI_mem h hm⟩
theorem grp_most (l : List Pr) {P : Nat} (hP : 1 ≤ P) (h : (kys l).Nodup) : (grpS l P).length ≤ l.length := by
  have e := grp_total l hP
  have : ∀ g : List Pp, (∀ p ∈ g, 1 ≤ p.2.length) → g.length ≤ total g := by
    intro g
    induction g with
    | nil => intro _; simp [total]
    | cons a g ih =>
      intro hg
      have h1 := hg a (List.mem_cons_self)
      have h2 := ih fun p hp => hg p (List.mem_cons_of_mem _ hp)
      simp [total] at h2 ⊢
      omega
  have := this _ fun p hp => (grp_part h P p hp).pos
  omega
theorem valI_key {l : List Pr} {k : Tx} (h : k ∈ kys (nrm l)) : (valI l k).2 = true := by
  obtain ⟨p, hp, rfl⟩ := List.mem_map.1 h
  have hm := (nrm_perm l).mem_iff.1 hp
  unfold valI
  cases hf : l.find? (fun q => decide (q.1 = p.1)) with
  | some q => rfl
  | none =>
    rw [List.find?_eq_none] at hf
    exact absurd (by simp) (hf p hm)
end Go.Proofs.YtghnhkhhpeoheaaGreat
