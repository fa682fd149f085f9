/- A world of writes: what a read may bring, and what it is mended to. -/
import Derived.Test.YtodblodbeobgeaaP0
namespace Go.Proofs.Ytodblodbeobgeaa
open Go.RowKit Go.Sort Orl
set_option linter.unusedVariables false
set_option linter.unusedSimpArgs false

/-- the version that the write number n made of a key -/
def verW (K : Nat → List Tx) (V : Nat → Tx → Tx) (n : Nat) (k : Tx) : Ver := ⟨k, 65536 * (n + 1), V n k, K n⟩
def botV (k : Tx) : Ver := ⟨k, 0, e0, []⟩
/-- the version that an ID names -/
def idV (K : Nat → List Tx) (V : Nat → Tx → Tx) (i : Nat) (k : Tx) : Ver := if i = 0 then botV k else verW K V (i / 65536 - 1) k
def Made (K : Nat → List Tx) (V : Nat → Tx → Tx) (N : Nat) (v : Ver) : Prop := ∃ n, n < N ∧ v.key ∈ K n ∧ v = verW K V n v.key
def OfW (K : Nat → List Tx) (V : Nat → Tx → Tx) (N : Nat) (v : Ver) : Prop := v = botV v.key ∨ Made K V N v
structure Keyd (K : Nat → List Tx) : Prop where
  inc : ∀ n, rising lts (K n) = true
  len : ∀ n, (K n).length ≤ 1024
variable {K : Nat → List Tx} {V : Nat → Tx → Tx} {N : Nat}
theorem Made.eq {v : Ver} (h : Made K V N v) : v = idV K V v.id v.key := by
  obtain ⟨n, _, _, e⟩ := h
  unfold idV
  have hi : v.id = 65536 * (n + 1) := by rw [e]; rfl
  rw [if_neg (by omega), show v.id / 65536 - 1 = n by omega]
  exact e
theorem OfW.eq {v : Ver} (h : OfW K V N v) : v = idV K V v.id v.key := by
  rcases h with h | h
  · have : v.id = 0 := by rw [h]; rfl
    unfold idV
    rw [if_pos this]; exact h
  · exact h.eq
theorem OfW.one (hK : Keyd K) {v : Ver} (h : OfW K V N v) : oneB v = true := by
  rcases h with h | ⟨n, _, hk, h⟩
  · rw [h]; unfold oneB botV; simp
  · have e : v.keys = K n ∧ v.id = 65536 * (n + 1) := by rw [h]; exact ⟨rfl, rfl⟩
    unfold oneB
    rw [if_neg (by omega), e.1, e.2, hK.inc n, (inn_iff _ _).2 hk]
    have := hK.len n
    simp [this]; omega
theorem OfW.pos {v : Ver} (h : OfW K V N v) (h0 : 0 < v.id) : Made K V N v := by
  rcases h with h | h
  · rw [h] at h0; simp [botV] at h0
  · exact h
/-- no two of one key -/
def Apart (l : List Ver) : Prop := ∀ j k, j < l.length → k < j → ¬ (l.getD k v0).key = (l.getD j v0).key
theorem formed_of (hK : Keyd K) {l : List Ver} (hp : 0 < l.length) (hm : l.length ≤ 1024) (ha : Apart l) (hl : ∀ v ∈ l, OfW K V N v) : Formed l where
  pos := hp
  most := hm
  one j hj := (hl _ (getD_mem_lt v0 hj)).one hK
  two j k hj hk := by
    refine (badB_iff _ _).2 ⟨ha j k hj hk, fun e => ?_⟩
    have h1 := (hl _ (getD_mem_lt v0 hj)).eq
    have h2 := (hl _ (getD_mem_lt v0 (show k < l.length by omega))).eq
    rw [h1, h2, e]
    unfold idV
    split <;> rfl
/-- what y is mended to -/
def mendW (K : Nat → List Tx) (V : Nat → Tx → Tx) (l : List Ver) (y : Ver) : Ver := idV K V (mostV l y) y.key
theorem mendW_key (l : List Ver) (y : Ver) : (mendW K V l y).key = y.key := by unfold mendW idV; split <;> rfl
theorem most_made {l : List Ver} (hl : ∀ v ∈ l, OfW K V N v) {y : Ver} (hy : y.id < mostV l y) : ∃ x ∈ l, y.key ∈ x.keys ∧ x.id = mostV l y ∧ Made K V N x := by
  rcases most_at l y with e | ⟨x, hx, h1, h2⟩
  · omega
  · exact ⟨x, hx, h1, h2, (hl x hx).pos (by omega)⟩
theorem mendW_ofW {l : List Ver} (hl : ∀ v ∈ l, OfW K V N v) {y : Ver} (hy : y ∈ l) : OfW K V N (mendW K V l y) ∧ (mendW K V l y).id = mostV l y := by
  by_cases h : y.id < mostV l y
  · obtain ⟨x, hx, h1, h2, n, hn, hk, e⟩ := most_made hl h
    have hi : mostV l y = 65536 * (n + 1) := by rw [← h2, e]; rfl
    have e2 : mendW K V l y = verW K V n y.key := by
      unfold mendW idV
      rw [if_neg (by omega), show mostV l y / 65536 - 1 = n by omega]
    have hyk : y.key ∈ K n := by rw [e] at h1; exact h1
    rw [e2]
    exact ⟨.inr ⟨n, hn, hyk, rfl⟩, hi.symm⟩
  · have he : mostV l y = y.id := by have := most_ge l y; omega
    unfold mendW
    rw [he, ← (hl y hy).eq]
    exact ⟨hl y hy, rfl⟩
/-- the mended keys are those of a version that was there -/
theorem mendW_keys {l : List Ver} (hl : ∀ v ∈ l, OfW K V N v) {y : Ver} (hy : y ∈ l) : ∃ x ∈ l, x.id = mostV l y ∧ x.keys = (mendW K V l y).keys := by
  have key : ∀ x ∈ l, x.id = mostV l y → x.keys = (mendW K V l y).keys := by
    intro x hx e
    rw [(hl x hx).eq, e]
    unfold mendW idV
    split <;> rfl
  rcases most_at l y with e | ⟨x, hx, h1, h2⟩
  · exact ⟨y, hy, e.symm, key y hy e.symm⟩
  · exact ⟨x, hx, h2, key x hx h2⟩
theorem mended_whole {l : List Ver} (hl : ∀ v ∈ l, OfW K V N v) : Whole (l.map (mendW K V l)) := by
  intro a ha b hb hk
  obtain ⟨y, hy, rfl⟩ := List.mem_map.1 ha
  obtain ⟨z, hz, rfl⟩ := List.mem_map.1 hb
  obtain ⟨x, hx, h1, h2⟩ := mendW_keys hl hy
  rw [mendW_key, ← h2] at hk
  rw [(mendW_ofW hl hy).2, (mendW_ofW hl hz).2, ← h1]
  exact most_le l z x hx hk
theorem getD_map_lt {α β : Type} (f : α → β) (l : List α) (d : α) (e : β) {j : Nat} (hj : j < l.length) : (l.map f).getD j e = f (l.getD j d) := by
  simp [List.getD_eq_getElem?_getD, hj]
theorem mended_formed (hK : Keyd K) {l : List Ver} (hf : Formed l) (hl : ∀ v ∈ l, OfW K V N v) : Formed (l.map (mendW K V l)) := by
  refine formed_of (V := V) (N := N) hK (by rw [List.length_map]; exact hf.pos) (by rw [List.length_map]; exact hf.most) ?_ ?_
  · intro j k hj hk
    rw [List.length_map] at hj
    rw [getD_map_lt _ l v0 _ hj, getD_map_lt _ l v0 _ (show k < l.length by omega), mendW_key, mendW_key]
    exact ((badB_iff _ _).1 (hf.two j k hj hk)).1
  · intro v hv
    obtain ⟨y, hy, rfl⟩ := List.mem_map.1 hv
    exact (mendW_ofW hl hy).1
theorem place_eq {l got : List Ver} (hl : ∀ v ∈ l, OfW K V N v) (hg : ∀ g ∈ got, Made K V N g) (hn : ∀ p ∈ needsV l, ∃ g ∈ got, g.key = p.1 ∧ g.id = p.2) {y : Ver} (hy : y ∈ l) : placeV l got y = some (mendW K V l y) := by
  unfold placeV
  by_cases h : y.id < mostV l y
  · rw [if_pos h]
    obtain ⟨g, hgm, h1, h2⟩ := hn (y.key, mostV l y) ((needs_mem l _).2 ⟨y, hy, h, rfl⟩)
    cases hf : got.find? (fun g => decide (g.key = y.key) && decide (g.id = mostV l y)) with
    | none =>
      have := List.find?_eq_none.1 hf g hgm
      simp at this h1 h2
      exact absurd h2 (this h1)
    | some a =>
      have h3 := List.find?_some hf
      simp at h3
      have := (hg a (List.mem_of_find?_eq_some hf)).eq
      rw [this, h3.1, h3.2]
      rfl
  · rw [if_neg h]
    have he : mostV l y = y.id := by have := most_ge l y; omega
    unfold mendW
    rw [he, ← (hl y hy).eq]
theorem mapM_some_of {α β : Type} (f : α → Option β) (g : α → β) : ∀ l : List α, (∀ x ∈ l, f x = some (g x)) → l.mapM f = some (l.map g)
  | [], _ => rfl
  | x :: r, h => by rw [List.mapM_cons, h x (by simp), mapM_some_of f g r (fun y hy => h y (by simp [hy]))]; rfl
theorem mapM_none_of {α β : Type} (f : α → Option β) : ∀ l : List α, (∃ x ∈ l, f x = none) → l.mapM f = none
  | [], h => by obtain ⟨x, hx, _⟩ := h; cases hx
  | x :: r, h => by
    rw [List.mapM_cons]
    cases hx : f x with
    | none => rfl
    | some y =>
      have : ∃ z ∈ r, f z = none := by
        obtain ⟨z, hz, e⟩ := h
        rcases List.mem_cons.1 hz with rfl | hz
        · rw [hx] at e; cases e
        · exact ⟨z, hz, e⟩
      rw [mapM_none_of f r this]; rfl
theorem mend_eq {l got : List Ver} (hl : ∀ v ∈ l, OfW K V N v) (hg : ∀ g ∈ got, Made K V N g) (hn : ∀ p ∈ needsV l, ∃ g ∈ got, g.key = p.1 ∧ g.id = p.2) : mendV l got = some (l.map (mendW K V l)) :=
  mapM_some_of _ _ l fun y hy => place_eq hl hg hn hy
/-- a want is missing: refused -/
theorem mend_none {l got : List Ver} {p : Wn} (hp : p ∈ needsV l) (hn : ∀ g ∈ got, ¬ (g.key = p.1 ∧ g.id = p.2)) : mendV l got = none := by
  obtain ⟨y, hy, hlt, rfl⟩ := (needs_mem l p).1 hp
  refine mapM_none_of _ l ⟨y, hy, ?_⟩
  unfold placeV
  rw [if_pos hlt, List.find?_eq_none]
  intro g hg
  have := hn g hg
  simp only [Bool.and_eq_true, decide_eq_true_eq]
  exact this
/-- a want names a write that there is, and that has the key -/
theorem want_made {l : List Ver} (hl : ∀ v ∈ l, OfW K V N v) {p : Wn} (hp : p ∈ needsV l) : ∃ n, n < N ∧ p.2 = 65536 * (n + 1) ∧ p.1 ∈ K n := by
  obtain ⟨y, hy, hlt, rfl⟩ := (needs_mem l p).1 hp
  obtain ⟨x, hx, h1, h2, n, hn, hk, e⟩ := most_made hl hlt
  exact ⟨n, hn, by rw [← h2, e]; rfl, by rw [e] at h1; exact h1⟩
/-- each key is wanted once -/
theorem wanted_iff {l : List Ver} (hf : Formed l) {y : Ver} (hy : y ∈ l) : (∃ p ∈ needsV l, p.1 = y.key) ↔ y.id < mostV l y := by
  constructor
  · rintro ⟨p, hp, e⟩
    obtain ⟨z, hz, hlt, rfl⟩ := (needs_mem l p).1 hp
    obtain ⟨i, hi, rfl⟩ := List.getElem_of_mem hy
    obtain ⟨k, hk, rfl⟩ := List.getElem_of_mem hz
    have := hf.keys_inj (i := k) (k := i) hk hi (by simpa [hk, hi] using e)
    subst this
    exact hlt
  · intro h
    exact ⟨_, (needs_mem l _).2 ⟨y, hy, h, rfl⟩, rfl⟩
end Go.Proofs.Ytodblodbeobgeaa
