/- The program's Mend. -/
import Derived.Test.YtodblodbeobgeaaC7
namespace Go.Proofs.Ytodblodbeobgeaa
open Go.RowKit Go.Sort Orl
set_option linter.unusedVariables false
set_option linter.unusedSimpArgs false

/-- where each want's key stands -/
structure Ms (vs : List Ver) (ws : List Wn) (L : List (Wn × Nat)) : Prop where
  iff : ∀ p a, fnd p L = some a ↔ p ∈ ws ∧ a < vs.length ∧ (vs.getD a v0).key = p.1
  le : L.length ≤ ws.length
theorem Ms.nil (vs : List Ver) : Ms vs [] [] := ⟨fun p a => by simp [fnd], Nat.le_refl _⟩
theorem Ms.snoc {vs : List Ver} (hf : Formed vs) {ws : List Wn} {L : List (Wn × Nat)} (h : Ms vs ws L) (p : Wn) {a : Nat} (ha : a < vs.length) (hk : (vs.getD a v0).key = p.1) : Ms vs (ws ++ [p]) (Go.Proofs.Ytodblodbeobgeaa.put p a L) := by
  refine ⟨?_, by have := length_put_le p a L; have := h.le; simp; omega⟩
  intro q b
  rw [fnd_put]
  by_cases e : q = p
  · rw [if_pos e]
    constructor
    · intro hb; cases hb; exact ⟨by simp [e], ha, by rw [e]; exact hk⟩
    · rintro ⟨_, h2, h3⟩
      rw [hf.keys_inj ha h2 (by rw [hk, h3, e])]
  · rw [if_neg e, h.iff q b]
    simp [e]
theorem want_at {vs : List Ver} (hf : Formed vs) {L : List (Tx × Nat)} (hL : Pl vs vs.length L) {p : Wn} (hp : p ∈ needsV vs) : ∃ a, fnd p.1 L = some a ∧ a < vs.length ∧ (vs.getD a v0).key = p.1 := by
  obtain ⟨y, hy, _, rfl⟩ := (needs_mem vs p).1 hp
  obtain ⟨i, hi, rfl⟩ := List.getElem_of_mem hy
  have e : vs.getD i v0 = vs[i] := by simp [hi]
  have := hL.ind hf hi
  rw [e] at this
  exact ⟨i, this, hi, by rw [e]⟩
/-- what stands for y when the first j of got were seen -/
def curA (vs gs : List Ver) (j : Nat) (y : Ver) : Ver := if y.id < mostV vs y then ((gs.take j).find? (hitB (mostV vs y) y.key)).getD y else y
/-- what is still missing then -/
structure Mj (vs gs : List Ver) (j : Nat) (L : List (Wn × Nat)) : Prop where
  iff : ∀ p a, fnd p L = some a ↔ p ∈ needsV vs ∧ a < vs.length ∧ (vs.getD a v0).key = p.1 ∧ (gs.take j).find? (hitB p.2 p.1) = none
  le : L.length ≤ 1024
theorem Mj.zero {vs : List Ver} (gs : List Ver) (hf : Formed vs) {L : List (Wn × Nat)} (h : Ms vs (needsV vs) L) : Mj vs gs 0 L := ⟨fun p a => by rw [h.iff]; simp, by have := h.le; have := needs_len vs; have := hf.most; omega⟩
theorem cur_zero (vs gs : List Ver) : vs.map (curA vs gs 0) = vs := by
  have : ∀ y ∈ vs, curA vs gs 0 y = y := fun y _ => by unfold curA; simp
  rw [List.map_congr_left this, List.map_id'']
  intro x; rfl
theorem find_succ (gs : List Ver) (j : Nat) (hj : j < gs.length) (f : Ver → Bool) : (gs.take (j + 1)).find? f = ((gs.take j).find? f).or (if f (gs.getD j v0) = true then some (gs.getD j v0) else none) := by
  rw [take_succ_getD gs j v0 hj, List.find?_append]
  congr 1
  rw [List.find?_singleton]
theorem hit_iff (p : Wn) (g : Ver) : hitB p.2 p.1 g = true ↔ p = (g.key, g.id) := by
  unfold hitB
  simp only [Bool.and_eq_true, decide_eq_true_eq]
  constructor
  · rintro ⟨h1, h2⟩; cases p; simp at h1 h2; rw [h1, h2]
  · rintro rfl; exact ⟨rfl, rfl⟩
theorem has_place {vs : List Ver} {p : Wn} (hp : p ∈ needsV vs) : ∃ a, a < vs.length ∧ (vs.getD a v0).key = p.1 := by
  obtain ⟨y, hy, _, rfl⟩ := (needs_mem vs p).1 hp
  obtain ⟨i, hi, rfl⟩ := List.getElem_of_mem hy
  exact ⟨i, hi, by simp [hi]⟩
theorem Mj.skip {vs gs : List Ver} {j : Nat} {L : List (Wn × Nat)} (h : Mj vs gs j L) (hj : j < gs.length) (hn : fnd ((gs.getD j v0).key, (gs.getD j v0).id) L = none) : Mj vs gs (j + 1) L ∧ vs.map (curA vs gs (j + 1)) = vs.map (curA vs gs j) := by
  have key : ∀ p ∈ needsV vs, (gs.take (j + 1)).find? (hitB p.2 p.1) = (gs.take j).find? (hitB p.2 p.1) := by
    intro p hp
    rw [find_succ gs j hj]
    by_cases e : hitB p.2 p.1 (gs.getD j v0) = true
    · cases hff : (gs.take j).find? (hitB p.2 p.1) with
      | some x => rfl
      | none =>
        obtain ⟨a, ha, hk⟩ := has_place hp
        have := (h.iff p a).2 ⟨hp, ha, hk, hff⟩
        rw [(hit_iff p _).1 e, hn] at this
        cases this
    · rw [if_neg e, Option.or_none]
  refine ⟨⟨fun p a => ?_, h.le⟩, ?_⟩
  · rw [h.iff]
    constructor
    · rintro ⟨h1, h2, h3, h4⟩; exact ⟨h1, h2, h3, by rw [key p h1]; exact h4⟩
    · rintro ⟨h1, h2, h3, h4⟩; exact ⟨h1, h2, h3, by rw [← key p h1]; exact h4⟩
  · refine List.map_congr_left fun y hy => ?_
    unfold curA
    by_cases e : y.id < mostV vs y
    · rw [if_pos e, if_pos e]
      have := key (y.key, mostV vs y) ((needs_mem vs _).2 ⟨y, hy, e, rfl⟩)
      simp only at this
      rw [this]
    · rw [if_neg e, if_neg e]
theorem Mj.hit {vs gs : List Ver} (hf : Formed vs) {j a : Nat} {L : List (Wn × Nat)} (h : Mj vs gs j L) (hj : j < gs.length) (hn : fnd ((gs.getD j v0).key, (gs.getD j v0).id) L = some a) : Mj vs gs (j + 1) (del ((gs.getD j v0).key, (gs.getD j v0).id) L) ∧ a < vs.length ∧ vs.map (curA vs gs (j + 1)) = (vs.map (curA vs gs j)).set a (gs.getD j v0) := by
  obtain ⟨h1, h2, h3, h4⟩ := (h.iff _ _).1 hn
  simp only at h3 h4
  refine ⟨⟨fun p b => ?_, Nat.le_trans (length_del_le _ _) h.le⟩, h2, ?_⟩
  · rw [fnd_del]
    by_cases e : p = ((gs.getD j v0).key, (gs.getD j v0).id)
    · rw [if_pos e]
      constructor
      · intro hh; cases hh
      · rintro ⟨_, _, _, h8⟩
        rw [find_succ gs j hj, if_pos ((hit_iff p _).2 e)] at h8
        cases hx : (gs.take j).find? (hitB p.2 p.1) with
        | none => rw [hx] at h8; cases h8
        | some x => rw [hx] at h8; cases h8
    · rw [if_neg e, h.iff]
      have : (gs.take (j + 1)).find? (hitB p.2 p.1) = (gs.take j).find? (hitB p.2 p.1) := by
        rw [find_succ gs j hj, if_neg (fun hh => e ((hit_iff p _).1 hh)), Option.or_none]
      rw [this]
  · apply List.ext_getElem?
    intro b
    rw [List.getElem?_set, List.getElem?_map, List.length_map, List.getElem?_map]
    by_cases hb : b < vs.length
    · rw [List.getElem?_eq_getElem hb]
      have eb : vs[b] = vs.getD b v0 := by simp [hb]
      rw [eb]
      simp only [Option.map_some]
      have hbm : vs.getD b v0 ∈ vs := getD_mem_lt v0 hb
      by_cases e : a = b
      · subst e
        rw [if_pos rfl, if_pos h2]
        obtain ⟨z, hz, hlt, hpz⟩ := (needs_mem vs _).1 h1
        have hza : z = vs.getD a v0 := by
          obtain ⟨i, hi, rfl⟩ := List.getElem_of_mem hz
          have ei : vs[i] = vs.getD i v0 := by simp [hi]
          rw [ei] at hpz ⊢
          have : (vs.getD i v0).key = (vs.getD a v0).key := by rw [h3]; exact (congrArg Prod.fst hpz).symm
          rw [hf.keys_inj hi hb this]
        rw [hza] at hlt hpz
        have hid : (gs.getD j v0).id = mostV vs (vs.getD a v0) := congrArg Prod.snd hpz
        unfold curA
        rw [if_pos hlt, ← hid, h3, find_succ gs j hj, h4, if_pos ((hit_iff ((gs.getD j v0).key, (gs.getD j v0).id) _).2 rfl)]
        rfl
      · rw [if_neg e]
        have hne : ¬ (gs.getD j v0).key = (vs.getD b v0).key := fun hh => e (hf.keys_inj h2 hb (by rw [h3, hh]))
        unfold curA
        by_cases e2 : (vs.getD b v0).id < mostV vs (vs.getD b v0)
        · rw [if_pos e2, if_pos e2, find_succ gs j hj, if_neg, Option.or_none]
          unfold hitB
          rw [decide_eq_false hne]; simp
        · rw [if_neg e2, if_neg e2]
    · rw [List.getElem?_eq_none (by omega)]
      by_cases e : a = b
      · omega
      · rw [if_neg e]; rfl
theorem Mj.done {vs gs : List Ver} {L : List (Wn × Nat)} (h : Mj vs gs gs.length L) (h0 : L.length = 0) : mendV vs gs = some (vs.map (curA vs gs gs.length)) := by
  refine mapM_some_of _ _ vs fun y hy => ?_
  unfold placeV curA
  by_cases e : y.id < mostV vs y
  · rw [if_pos e, if_pos e, List.take_length]
    have ee : (fun g : Ver => decide (g.key = y.key) && decide (g.id = mostV vs y)) = hitB (mostV vs y) y.key := rfl
    rw [ee]
    cases hff : gs.find? (hitB (mostV vs y) y.key) with
    | some x => rfl
    | none =>
      have hp := (needs_mem vs (y.key, mostV vs y)).2 ⟨y, hy, e, rfl⟩
      obtain ⟨a, ha, hk⟩ := has_place hp
      have := (h.iff (y.key, mostV vs y) a).2 ⟨hp, ha, hk, by rw [List.take_length]; exact hff⟩
      rw [List.length_eq_zero_iff.1 h0] at this
      cases this
  · rw [if_neg e, if_neg e]
theorem Mj.lack {vs gs : List Ver} {L : List (Wn × Nat)} (h : Mj vs gs gs.length L) (hk : Nk L) (h0 : ¬ L.length = 0) : mendV vs gs = none := by
  cases L with
  | nil => exact absurd rfl h0
  | cons q r =>
    obtain ⟨p, a⟩ := q
    have hm := fnd_of_mem hk (show (p, a) ∈ (p, a) :: r by simp)
    obtain ⟨h1, _, _, h4⟩ := (h.iff p a).1 hm
    rw [List.take_length] at h4
    refine mend_none h1 fun g hg hh => ?_
    have := List.find?_eq_none.1 h4 g hg
    unfold hitB at this
    simp [hh.1, hh.2] at this
theorem take_set (vs : List Ver) (n i : Nat) (hn : n = vs.length) (hi : i < n) : (vs.take i ++ List.replicate (n - i) v0).set i (vs.getD i v0) = vs.take (i + 1) ++ List.replicate (n - (i + 1)) v0 := by
  subst hn
  rw [take_succ_getD vs i v0 hi, List.append_assoc, show vs.length - i = (vs.length - (i + 1)) + 1 by omega, List.replicate_succ]
  have hl : (vs.take i).length = i := by rw [List.length_take]; omega
  rw [List.set_append_right _ _ (by omega), hl, Nat.sub_self]
  rfl
theorem take_rep_len (vs : List Ver) (n i : Nat) (hn : n = vs.length) (hi : i ≤ n) : (vs.take i ++ List.replicate (n - i) v0).length = n := by
  simp; omega
end Go.Proofs.Ytodblodbeobgeaa
