import Derived.Test.YtkoaiibjahlnmaaGreatDZ
/- The document's store in pure lists. -/
namespace Go.Proofs.YtkoaiibjahlnmaaGreat
open Go.RowKit Go.Maps Go.Sort Orl
set_option linter.unusedVariables false
set_option linter.unusedSimpArgs false

/-- a store and the document's lists -/
structure Rl (s : St) (ks : List KV) (ls : List Mk) : Prop where
  is : IsKs s ks
  all : ∀ m, s.V m ≠ none → m ∈ ks.map (·.m)
  inc : Inc ltM (ks.map (·.m))
  la : IsLs s ls
theorem nk_isLs {s : St} {ls : List Mk} (h : IsLs s ls) : Nk ls := by
  refine nk_inc ?_
  have := h.1
  unfold Inc at this ⊢
  rw [List.pairwise_map] at this
  exact this
theorem lastIn_is {s : St} {ls : List Mk} (h : IsLs s ls) (k : Tx) : lastIn ls k = s.last k := by
  unfold lastIn
  cases hf : fnd k ls with
  | some i => exact ((h.2 k i).1 (fnd_mem hf)).1.symm
  | none =>
    by_cases e : s.last k = 0
    · exact e.symm
    · have := (h.2 k (s.last k)).2 ⟨rfl, e⟩
      exact absurd rfl (fnd_none.1 hf _ this)
theorem mgetD (ks : List KV) (j : Nat) : (ks.map (·.m)).getD j (e0, 0) = (ks.getD j kv0).m := by
  simp only [List.getD_eq_getElem?_getD, List.getElem?_map]
  cases ks[j]? <;> rfl
/-! ### where a version stands -/
theorem fpos_lt {m : Mk} : ∀ (ks : List KV) (j : Nat), j < fpos ks m → ltM (ks.getD j kv0).m m = true
  | [], j, h => by simp [fpos] at h
  | x :: r, j, h => by
    unfold fpos at h
    rw [List.takeWhile_cons] at h
    cases hx : ltM x.m m with
    | false => rw [hx] at h; simp at h
    | true =>
      rw [hx] at h
      cases j with
      | zero => exact hx
      | succ j => exact fpos_lt r j (by unfold fpos; simpa using h)
theorem fpos_at {m : Mk} : ∀ (ks : List KV), fpos ks m < ks.length → ltM (ks.getD (fpos ks m) kv0).m m = false
  | [], h => by simp [fpos] at h
  | x :: r, h => by
    cases hx : ltM x.m m with
    | false =>
      have e : fpos (x :: r) m = 0 := by unfold fpos; rw [List.takeWhile_cons, hx]; rfl
      rw [e]; exact hx
    | true =>
      have e : fpos (x :: r) m = fpos r m + 1 := by unfold fpos; rw [List.takeWhile_cons, if_pos hx]; rfl
      rw [e] at h ⊢
      exact fpos_at r (by simpa using h)
theorem fpos_ge {m : Mk} {ks : List KV} (hi : Inc ltM (ks.map (·.m))) {j : Nat} (h : fpos ks m ≤ j) (hj : j < ks.length) : ltM (ks.getD j kv0).m m = false := by
  have hat := fpos_at (m := m) ks (by omega)
  by_cases e : j = fpos ks m
  · rw [e]; exact hat
  · have h1 := inc_getD hi (e0, 0) (i := fpos ks m) (j := j) (by omega) (by simpa using hj)
    rw [mgetD, mgetD] at h1
    cases h2 : ltM (ks.getD j kv0).m m with
    | false => rfl
    | true => rw [swoM.trans _ _ _ h1 h2] at hat; cases hat
theorem there_iff {m : Mk} {ks : List KV} (hi : Inc ltM (ks.map (·.m))) : there ks m = true ↔ m ∈ ks.map (·.m) := by
  constructor
  · intro h
    simp only [there, Bool.and_eq_true, decide_eq_true_eq] at h
    exact List.mem_map.2 ⟨_, getD_mem_lt kv0 h.1, h.2⟩
  · intro h
    obtain ⟨x, hx, e⟩ := List.mem_map.1 h
    obtain ⟨j, hj, rfl⟩ := List.getElem_of_mem hx
    have g : ks.getD j kv0 = ks[j] := by simp [List.getD_eq_getElem?_getD, hj]
    have h1 : ¬ j < fpos ks m := fun hc => by
      have := fpos_lt ks j hc
      rw [g, e, swoM.irrefl] at this; cases this
    have hf : fpos ks m < ks.length := by omega
    have hat := fpos_at ks hf
    have hje : j = fpos ks m := by
      rcases Nat.lt_or_ge (fpos ks m) j with hc | hc
      · have h2 := inc_getD hi (e0, 0) (i := fpos ks m) (j := j) hc (by simpa using hj)
        rw [mgetD, mgetD, g, e, hat] at h2
        cases h2
      · omega
    simp only [there, Bool.and_eq_true, decide_eq_true_eq]
    exact ⟨hf, by rw [← hje, g]; exact e⟩
theorem Rl.there {s : St} {ks : List KV} {ls : List Mk} (h : Rl s ks ls) (m : Mk) : there ks m = (s.V m).isSome := by
  cases hv : s.V m with
  | none =>
    cases ht : Go.Proofs.YtkoaiibjahlnmaaGreat.there ks m with
    | false => rfl
    | true =>
      obtain ⟨x, hx, rfl⟩ := List.mem_map.1 ((there_iff h.inc).1 ht)
      rw [h.is x hx] at hv; cases hv
  | some v => exact (there_iff h.inc).2 (h.all m (by rw [hv]; simp))
/-! ### one more -/
def insK (ks : List KV) (x : KV) : List KV := ks.take (fpos ks x.m) ++ x :: ks.drop (fpos ks x.m)
theorem insK_mem {ks : List KV} {x y : KV} : y ∈ insK ks x ↔ y = x ∨ y ∈ ks := by
  have h : y ∈ ks ↔ y ∈ ks.take (fpos ks x.m) ∨ y ∈ ks.drop (fpos ks x.m) := by rw [← List.mem_append, List.take_append_drop]
  unfold insK
  rw [List.mem_append, List.mem_cons, h]
  constructor
  · rintro (h | h | h)
    · exact .inr (.inl h)
    · exact .inl h
    · exact .inr (.inr h)
  · rintro (h | h | h)
    · exact .inr (.inl h)
    · exact .inl h
    · exact .inr (.inr h)
theorem insK_length (ks : List KV) (x : KV) : (insK ks x).length = ks.length + 1 := by
  have := fpos_le ks x.m
  simp only [insK, List.length_append, List.length_cons, List.length_take, List.length_drop]
  omega
theorem mem_take_getD {α : Type} {l : List α} {n : Nat} {y : α} (d : α) (h : y ∈ l.take n) : ∃ j, j < n ∧ j < l.length ∧ y = l.getD j d := by
  obtain ⟨j, hj, rfl⟩ := List.getElem_of_mem h
  rw [List.length_take] at hj
  refine ⟨j, by omega, by omega, ?_⟩
  rw [List.getElem_take]
  simp [List.getD_eq_getElem?_getD, show j < l.length by omega]
theorem mem_drop_getD {α : Type} {l : List α} {n : Nat} {y : α} (d : α) (h : y ∈ l.drop n) : ∃ j, n ≤ j ∧ j < l.length ∧ y = l.getD j d := by
  obtain ⟨j, hj, rfl⟩ := List.getElem_of_mem h
  rw [List.length_drop] at hj
  refine ⟨n + j, by omega, by omega, ?_⟩
  rw [List.getElem_drop]
  simp [List.getD_eq_getElem?_getD, show n + j < l.length by omega]
theorem insK_inc {ks : List KV} {x : KV} (hi : Inc ltM (ks.map (·.m))) (hn : x.m ∉ ks.map (·.m)) : Inc ltM ((insK ks x).map (·.m)) := by
  have hd : ∀ y ∈ ks.drop (fpos ks x.m), ltM x.m y.m = true := fun y hy => by
    obtain ⟨j, h1, h2, rfl⟩ := mem_drop_getD kv0 hy
    have h3 := fpos_ge hi h1 h2
    cases h4 : ltM x.m (ks.getD j kv0).m with
    | true => rfl
    | false =>
      have := triM _ _ h3 h4
      exact absurd (List.mem_map.2 ⟨_, getD_mem_lt kv0 h2, this⟩) hn
  have ht : ∀ y ∈ ks.take (fpos ks x.m), ltM y.m x.m = true := fun y hy => by
    obtain ⟨j, h1, h2, rfl⟩ := mem_take_getD kv0 hy
    exact fpos_lt ks j h1
  unfold Inc at hi ⊢
  unfold insK
  rw [List.map_append, List.map_cons, List.pairwise_append]
  refine ⟨hi.sublist ((List.take_sublist _ _).map _), List.pairwise_cons.2 ⟨fun a ha => ?_, hi.sublist ((List.drop_sublist _ _).map _)⟩, fun a ha b hb => ?_⟩
  · obtain ⟨y, hy, rfl⟩ := List.mem_map.1 ha
    exact hd y hy
  · obtain ⟨y, hy, rfl⟩ := List.mem_map.1 ha
    rcases List.mem_cons.1 hb with rfl | hb
    · exact ht y hy
    · obtain ⟨z, hz, rfl⟩ := List.mem_map.1 hb
      exact swoM.trans _ _ _ (ht y hy) (hd z hz)
theorem Rl.add {s : St} {ks : List KV} {ls : List Mk} (h : Rl s ks ls) (x : KV) (hn : s.V x.m = none) : Rl (s.add x.m x.vr) (insK ks x) ls := by
  refine ⟨fun y hy => ?_, fun m hm => ?_, insK_inc h.inc (fun hc => ?_), h.la⟩
  · rcases insK_mem.1 hy with rfl | hy
    · simp [St.add, KV.vr]
    · have h1 := h.is y hy
      have hne : y.m ≠ x.m := fun e => by rw [e, hn] at h1; cases h1
      simp only [St.add, if_neg hne]
      exact h1
  · by_cases e : m = x.m
    · exact List.mem_map.2 ⟨x, insK_mem.2 (.inl rfl), e.symm⟩
    · simp only [St.add, if_neg e] at hm
      obtain ⟨y, hy, rfl⟩ := List.mem_map.1 (h.all m hm)
      exact List.mem_map.2 ⟨y, insK_mem.2 (.inr hy), rfl⟩
  · obtain ⟨y, hy, e⟩ := List.mem_map.1 hc
    have := h.is y hy
    rw [e, hn] at this; cases this
/-! ### one less -/
def delK (ks : List KV) (n : Nat) : List KV := ks.take n ++ ks.drop (n + 1)
theorem split_at {ks : List KV} {n : Nat} (h : n < ks.length) : ks = ks.take n ++ ks.getD n kv0 :: ks.drop (n + 1) := by
  have e : ks.getD n kv0 = ks[n] := by simp [List.getD_eq_getElem?_getD, h]
  rw [e, ← List.drop_eq_getElem_cons h, List.take_append_drop]
theorem Rl.drop {s : St} {ks : List KV} {ls : List Mk} (h : Rl s ks ls) (m : Mk) (hv : s.V m ≠ none) : Rl (dropS s m) (delK ks (fpos ks m)) ls := by
  have ht := (there_iff h.inc).2 (h.all m hv)
  simp only [Go.Proofs.YtkoaiibjahlnmaaGreat.there, Bool.and_eq_true, decide_eq_true_eq] at ht
  have hs := split_at ht.1
  have hnd := inc_nodup swoM h.inc
  have hmem : ∀ y, y ∈ delK ks (fpos ks m) ↔ y ∈ ks ∧ y.m ≠ m := fun y => by
    have hp : (ks.take (fpos ks m) ++ ks.getD (fpos ks m) kv0 :: ks.drop (fpos ks m + 1)).map (·.m) = ks.map (·.m) := by rw [← hs]
    rw [← hp, List.map_append, List.map_cons, ht.2, List.nodup_append] at hnd
    obtain ⟨_, h2, h3⟩ := hnd
    obtain ⟨h4, _⟩ := List.nodup_cons.1 h2
    constructor
    · intro hy
      rcases List.mem_append.1 hy with hy | hy
      · refine ⟨List.mem_of_mem_take hy, fun e => ?_⟩
        exact h3 _ (List.mem_map.2 ⟨y, hy, rfl⟩) m (by simp) e
      · exact ⟨List.mem_of_mem_drop hy, fun e => h4 (List.mem_map.2 ⟨y, hy, e⟩)⟩
    · rintro ⟨hy, hne⟩
      rw [hs] at hy
      rcases List.mem_append.1 hy with hy | hy
      · exact List.mem_append.2 (.inl hy)
      · rcases List.mem_cons.1 hy with rfl | hy
        · exact absurd ht.2 hne
        · exact List.mem_append.2 (.inr hy)
  refine ⟨fun y hy => ?_, fun z hz => ?_, ?_, h.la⟩
  · obtain ⟨h1, h2⟩ := (hmem y).1 hy
    simp only [dropS, if_neg h2]
    exact h.is y h1
  · have hne : z ≠ m := fun e => hz (by simp [dropS, e])
    simp only [dropS, if_neg hne] at hz
    obtain ⟨y, hy, rfl⟩ := List.mem_map.1 (h.all z hz)
    exact List.mem_map.2 ⟨y, (hmem y).2 ⟨hy, hne⟩, rfl⟩
  · have hl : (delK ks (fpos ks m)).Sublist ks := by
      conv => rhs; rw [hs]
      unfold delK
      exact List.Sublist.append (List.Sublist.refl _) (List.sublist_cons_self _ _)
    have := h.inc
    unfold Inc at this ⊢
    exact this.sublist (hl.map _)
end Go.Proofs.YtkoaiibjahlnmaaGreat
