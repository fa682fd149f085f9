import Derived.Test.YtileipnoiocdlaaH1
import Derived.Lib.QuietBelow
import Derived.BigQuiet
/- Torn reads and how they are mended, in pure lists. -/
namespace Go.Proofs.Ytileipnoiocdlaa
open Go.RowKit Go.Sort Orl
set_option linter.unusedVariables false
set_option linter.unusedSimpArgs false

/-- one version may be there -/
def oneB (v : Ver) : Bool := if v.id = 0 then decide (v.val = e0) && decide (v.keys.length = 0) else decide (65536 ≤ v.id) && (decide (v.keys.length ≤ 1024) && (rising lts v.keys && inn v.keys v.key))
/-- two that may not stand in one list, the first ahead -/
def badB (x y : Ver) : Bool := decide (x.key = y.key) || (decide (x.id = y.id) && !decide (x.keys = y.keys))
theorem badB_iff (x y : Ver) : badB x y = false ↔ ¬ x.key = y.key ∧ (x.id = y.id → x.keys = y.keys) := by
  unfold badB
  by_cases h1 : x.key = y.key <;> by_cases h2 : x.id = y.id <;> by_cases h3 : x.keys = y.keys <;> simp [h1, h2, h3]
structure Formed (l : List Ver) : Prop where
  pos : 0 < l.length
  most : l.length ≤ 1024
  one : ∀ j, j < l.length → oneB (l.getD j v0) = true
  two : ∀ j k, j < l.length → k < j → badB (l.getD k v0) (l.getD j v0) = false
noncomputable def formedB (l : List Ver) : Bool := @decide (Formed l) (Classical.propDecidable _)
theorem formedB_iff (l : List Ver) : formedB l = true ↔ Formed l := by unfold formedB; simp
theorem formedB_no {l : List Ver} (h : ¬ Formed l) : formedB l = false := by rw [← Bool.not_eq_true, formedB_iff]; exact h
/-- no version is below one whose keys have its key -/
def Whole (l : List Ver) : Prop := ∀ x ∈ l, ∀ y ∈ l, y.key ∈ x.keys → x.id ≤ y.id
noncomputable def wholeB (l : List Ver) : Bool := @decide (Whole l) (Classical.propDecidable _)
theorem wholeB_iff (l : List Ver) : wholeB l = true ↔ Whole l := by unfold wholeB; simp
theorem wholeB_no {l : List Ver} (h : ¬ Whole l) : wholeB l = false := by rw [← Bool.not_eq_true, wholeB_iff]; exact h
def mostS (y : Ver) (m : Nat) (x : Ver) : Nat := if m < x.id ∧ inn x.keys y.key = true then x.id else m
def mostV (l : List Ver) (y : Ver) : Nat := l.foldl (mostS y) y.id
def needsV (l : List Ver) : List Wn := l.filterMap fun y => if y.id < mostV l y then some (y.key, mostV l y) else none
/-- what stands in the place of y -/
def placeV (l got : List Ver) (y : Ver) : Option Ver := if y.id < mostV l y then got.find? (fun g => decide (g.key = y.key) && decide (g.id = mostV l y)) else some y
def mendV (l got : List Ver) : Option (List Ver) := l.mapM (placeV l got)

theorem mostS_ge (y : Ver) (m : Nat) (x : Ver) : m ≤ mostS y m x := by unfold mostS; split <;> omega
theorem fold_ge (y : Ver) : ∀ (l : List Ver) (m : Nat), m ≤ l.foldl (mostS y) m
  | [], m => Nat.le_refl _
  | x :: r, m => Nat.le_trans (mostS_ge y m x) (fold_ge y r _)
theorem fold_le (y : Ver) : ∀ (l : List Ver) (m : Nat), ∀ x ∈ l, y.key ∈ x.keys → x.id ≤ l.foldl (mostS y) m
  | [], m, x, hx, _ => by cases hx
  | a :: r, m, x, hx, hk => by
    rcases List.mem_cons.1 hx with rfl | hx
    · refine Nat.le_trans ?_ (fold_ge y r _)
      unfold mostS
      split
      · omega
      · rename_i h
        have : ¬ m < x.id := fun hm => h ⟨hm, (inn_iff _ _).2 hk⟩
        omega
    · exact fold_le y r _ x hx hk
theorem fold_at (y : Ver) : ∀ (l : List Ver) (m : Nat), l.foldl (mostS y) m = m ∨ ∃ x ∈ l, y.key ∈ x.keys ∧ x.id = l.foldl (mostS y) m
  | [], m => .inl rfl
  | a :: r, m => by
    rcases fold_at y r (mostS y m a) with h | ⟨x, hx, h1, h2⟩
    · by_cases hc : m < a.id ∧ inn a.keys y.key = true
      · have e : mostS y m a = a.id := by unfold mostS; rw [if_pos hc]
        rw [e] at h
        exact .inr ⟨a, by simp, (inn_iff _ _).1 hc.2, by rw [List.foldl_cons, e, h]⟩
      · have e : mostS y m a = m := by unfold mostS; rw [if_neg hc]
        rw [e] at h
        exact .inl (by rw [List.foldl_cons, e, h])
    · exact .inr ⟨x, by simp [hx], h1, h2⟩
theorem most_ge (l : List Ver) (y : Ver) : y.id ≤ mostV l y := fold_ge y l _
theorem most_le (l : List Ver) (y x : Ver) (hx : x ∈ l) (hk : y.key ∈ x.keys) : x.id ≤ mostV l y := fold_le y l _ x hx hk
theorem most_at (l : List Ver) (y : Ver) : mostV l y = y.id ∨ ∃ x ∈ l, y.key ∈ x.keys ∧ x.id = mostV l y := fold_at y l _
theorem most_eq_iff (l : List Ver) (y : Ver) : mostV l y = y.id ↔ ∀ x ∈ l, y.key ∈ x.keys → x.id ≤ y.id := by
  constructor
  · intro h x hx hk
    have := most_le l y x hx hk
    omega
  · intro h
    rcases most_at l y with e | ⟨x, hx, h1, h2⟩
    · exact e
    · have := h x hx h1
      have := most_ge l y
      omega
/-- nothing is wanted of a cut, and just of a cut -/
theorem needs_nil (l : List Ver) : needsV l = [] ↔ Whole l := by
  unfold needsV
  rw [List.filterMap_eq_nil_iff]
  constructor
  · intro h x hx y hy hk
    have h1 := h y hy
    by_cases hlt : y.id < mostV l y
    · rw [if_pos hlt] at h1; cases h1
    · have := most_le l y x hx hk
      omega
  · intro h y hy
    have : mostV l y = y.id := (most_eq_iff l y).2 fun x hx hk => h x hx y hy hk
    rw [if_neg (by omega)]
theorem needs_mem (l : List Ver) (p : Wn) : p ∈ needsV l ↔ ∃ y ∈ l, y.id < mostV l y ∧ p = (y.key, mostV l y) := by
  unfold needsV
  rw [List.mem_filterMap]
  constructor
  · rintro ⟨y, hy, h⟩
    by_cases hlt : y.id < mostV l y
    · rw [if_pos hlt] at h; cases h; exact ⟨y, hy, hlt, rfl⟩
    · rw [if_neg hlt] at h; cases h
  · rintro ⟨y, hy, hlt, rfl⟩
    exact ⟨y, hy, by rw [if_pos hlt]⟩
theorem mend_cut (l got : List Ver) (h : Whole l) : mendV l got = some l := by
  have h1 : ∀ y ∈ l, placeV l got y = some y := by
    intro y hy
    have : mostV l y = y.id := (most_eq_iff l y).2 fun x hx hk => h x hx y hy hk
    unfold placeV
    rw [if_neg (by omega)]
  unfold mendV
  have : ∀ (r : List Ver), (∀ y ∈ r, y ∈ l) → r.mapM (placeV l got) = some r := by
    intro r
    induction r with
    | nil => intro _; rfl
    | cons a r ih => intro hr; rw [List.mapM_cons, h1 a (hr a (by simp)), ih (fun y hy => hr y (by simp [hy]))]; rfl
  exact this l (fun _ h => h)
theorem Formed.keys_inj {l : List Ver} (h : Formed l) {i k : Nat} (hi : i < l.length) (hk : k < l.length) (e : (l.getD i v0).key = (l.getD k v0).key) : i = k := by
  rcases Nat.lt_trichotomy i k with hlt | he | hgt
  · exact absurd e ((badB_iff _ _).1 (h.two k i hk hlt)).1
  · exact he
  · exact absurd e.symm ((badB_iff _ _).1 (h.two i k hi hgt)).1
end Go.Proofs.Ytileipnoiocdlaa
/- A world of writes: what a read may bring, and what it is mended to. -/
namespace Go.Proofs.Ytileipnoiocdlaa
open Go.RowKit Go.Sort Orl
set_option linter.unusedVariables false
set_option linter.unusedSimpArgs false

/-- the version that the write number n made of a key -/
def verW (K : Nat → List Tx) (V : Nat → Tx → Tx) (n : Nat) (k : Tx) : Ver := ⟨k, 65536 * (n + 1), V n k, K n⟩
def botV (k : Tx) : Ver := ⟨k, 0, e0, []⟩
/-- the version that an ID names -/
def idV (K : Nat → List Tx) (V : Nat → Tx → Tx) (i : Nat) (k : Tx) : Ver := if i = 0 then botV k else verW K V (i / 65536 - 1) k
def Made (K : Nat → List Tx) (V : Nat → Tx → Tx) (N : Nat) (v : Ver) : Prop := ∃ n, n < N ∧ v.key ∈ K n ∧ v = verW K V n v.key
def OfW (K : Nat → List Tx) (V : Nat → Tx → Tx) (N : Nat) (v : Ver) : Prop := v = botV v.key ∨ Made K V N v
structure Keyd (K : Nat → List Tx) : Prop where
  inc : ∀ n, rising lts (K n) = true
  len : ∀ n, (K n).length ≤ 1024
variable {K : Nat → List Tx} {V : Nat → Tx → Tx} {N : Nat}
theorem Made.eq {v : Ver} (h : Made K V N v) : v = idV K V v.id v.key := by
  obtain ⟨n, _, _, e⟩ := h
  unfold idV
  have hi : v.id = 65536 * (n + 1) := by rw [e]; rfl
  rw [if_neg (by omega), show v.id / 65536 - 1 = n by omega]
  exact e
theorem OfW.eq {v : Ver} (h : OfW K V N v) : v = idV K V v.id v.key := by
  rcases h with h | h
  · have : v.id = 0 := by rw [h]; rfl
    unfold idV
    rw [if_pos this]; exact h
  · exact h.eq
theorem OfW.one (hK : Keyd K) {v : Ver} (h : OfW K V N v) : oneB v = true := by
  rcases h with h | ⟨n, _, hk, h⟩
  · rw [h]; unfold oneB botV; simp
  · have e : v.keys = K n ∧ v.id = 65536 * (n + 1) := by rw [h]; exact ⟨rfl, rfl⟩
    unfold oneB
    rw [if_neg (by omega), e.1, e.2, hK.inc n, (inn_iff _ _).2 hk]
    have := hK.len n
    simp [this]; omega
theorem OfW.pos {v : Ver} (h : OfW K V N v) (h0 : 0 < v.id) : Made K V N v := by
  rcases h with h | h
  · rw [h] at h0; simp [botV] at h0
  · exact h
/-- no two of one key -/
def Apart (l : List Ver) : Prop := ∀ j k, j < l.length → k < j → ¬ (l.getD k v0).key = (l.getD j v0).key
theorem formed_of (hK : Keyd K) {l : List Ver} (hp : 0 < l.length) (hm : l.length ≤ 1024) (ha : Apart l) (hl : ∀ v ∈ l, OfW K V N v) : Formed l where
  pos := hp
  most := hm
  one j hj := (hl _ (getD_mem_lt v0 hj)).one hK
  two j k hj hk := by
    refine (badB_iff _ _).2 ⟨ha j k hj hk, fun e => ?_⟩
    have h1 := (hl _ (getD_mem_lt v0 hj)).eq
    have h2 := (hl _ (getD_mem_lt v0 (show k < l.length by omega))).eq
    rw [h1, h2, e]
    unfold idV
    split <;> rfl
/-- what y is mended to -/
def mendW (K : Nat → List Tx) (V : Nat → Tx → Tx) (l : List Ver) (y : Ver) : Ver := idV K V (mostV l y) y.key
theorem mendW_key (l : List Ver) (y : Ver) : (mendW K V l y).key = y.key := by unfold mendW idV; split <;> rfl
theorem most_made {l : List Ver} (hl : ∀ v ∈ l, OfW K V N v) {y : Ver} (hy : y.id < mostV l y) : ∃ x ∈ l, y.key ∈ x.keys ∧ x.id = mostV l y ∧ Made K V N x := by
  rcases most_at l y with e | ⟨x, hx, h1, h2⟩
  · omega
  · exact ⟨x, hx, h1, h2, (hl x hx).pos (by omega)⟩
theorem mendW_ofW {l : List Ver} (hl : ∀ v ∈ l, OfW K V N v) {y : Ver} (hy : y ∈ l) : OfW K V N (mendW K V l y) ∧ (mendW K V l y).id = mostV l y := by
  by_cases h : y.id < mostV l y
  · obtain ⟨x, hx, h1, h2, n, hn, hk, e⟩ := most_made hl h
    have hi : mostV l y = 65536 * (n + 1) := by rw [← h2, e]; rfl
    have e2 : mendW K V l y = verW K V n y.key := by
      unfold mendW idV
      rw [if_neg (by omega), show mostV l y / 65536 - 1 = n by omega]
    have hyk : y.key ∈ K n := by rw [e] at h1; exact h1
    rw [e2]
    exact ⟨.inr ⟨n, hn, hyk, rfl⟩, hi.symm⟩
  · have he : mostV l y = y.id := by have := most_ge l y; omega
    unfold mendW
    rw [he, ← (hl y hy).eq]
    exact ⟨hl y hy, rfl⟩
/-- the mended keys are those of a version that was there -/
theorem mendW_keys {l : List Ver} (hl : ∀ v ∈ l, OfW K V N v) {y : Ver} (hy : y ∈ l) : ∃ x ∈ l, x.id = mostV l y ∧ x.keys = (mendW K V l y).keys := by
  have key : ∀ x ∈ l, x.id = mostV l y → x.keys = (mendW K V l y).keys := by
    intro x hx e
    rw [(hl x hx).eq, e]
    unfold mendW idV
    split <;> rfl
  rcases most_at l y with e | ⟨x, hx, h1, h2⟩
  · exact ⟨y, hy, e.symm, key y hy e.symm⟩
  · exact ⟨x, hx, h2, key x hx h2⟩
theorem mended_whole {l : List Ver} (hl : ∀ v ∈ l, OfW K V N v) : Whole (l.map (mendW K V l)) := by
  intro a ha b hb hk
  obtain ⟨y, hy, rfl⟩ := List.mem_map.1 ha
  obtain ⟨z, hz, rfl⟩ := List.mem_map.1 hb
  obtain ⟨x, hx, h1, h2⟩ := mendW_keys hl hy
  rw [mendW_key, ← h2] at hk
  rw [(mendW_ofW hl hy).2, (mendW_ofW hl hz).2, ← h1]
  exact most_le l z x hx hk
theorem getD_map_lt {α β : Type} (f : α → β) (l : List α) (d : α) (e : β) {j : Nat} (hj : j < l.length) : (l.map f).getD j e = f (l.getD j d) := by
  simp [List.getD_eq_getElem?_getD, hj]
theorem mended_formed (hK : Keyd K) {l : List Ver} (hf : Formed l) (hl : ∀ v ∈ l, OfW K V N v) : Formed (l.map (mendW K V l)) := by
  refine formed_of (V := V) (N := N) hK (by rw [List.length_map]; exact hf.pos) (by rw [List.length_map]; exact hf.most) ?_ ?_
  · intro j k hj hk
    rw [List.length_map] at hj
    rw [getD_map_lt _ l v0 _ hj, getD_map_lt _ l v0 _ (show k < l.length by omega), mendW_key, mendW_key]
    exact ((badB_iff _ _).1 (hf.two j k hj hk)).1
  · intro v hv
    obtain ⟨y, hy, rfl⟩ := List.mem_map.1 hv
    exact (mendW_ofW hl hy).1
theorem place_eq {l got : List Ver} (hl : ∀ v ∈ l, OfW K V N v) (hg : ∀ g ∈ got, Made K V N g) (hn : ∀ p ∈ needsV l, ∃ g ∈ got, g.key = p.1 ∧ g.id = p.2) {y : Ver} (hy : y ∈ l) : placeV l got y = some (mendW K V l y) := by
  unfold placeV
  by_cases h : y.id < mostV l y
  · rw [if_pos h]
    obtain ⟨g, hgm, h1, h2⟩ := hn (y.key, mostV l y) ((needs_mem l _).2 ⟨y, hy, h, rfl⟩)
    cases hf : got.find? (fun g => decide (g.key = y.key) && decide (g.id = mostV l y)) with
    | none =>
      have := List.find?_eq_none.1 hf g hgm
      simp at this h1 h2
      exact absurd h2 (this h1)
    | some a =>
      have h3 := List.find?_some hf
      simp at h3
      have := (hg a (List.mem_of_find?_eq_some hf)).eq
      rw [this, h3.1, h3.2]
      rfl
  · rw [if_neg h]
    have he : mostV l y = y.id := by have := most_ge l y; omega
    unfold mendW
    rw [he, ← (hl y hy).eq]
theorem mapM_some_of {α β : Type} (f : α → Option β) (g : α → β) : ∀ l : List α, (∀ x ∈ l, f x = some (g x)) → l.mapM f = some (l.map g)
  | [], _ => rfl
  | x :: r, h => by rw [List.mapM_cons, h x (by simp), mapM_some_of f g r (fun y hy => h y (by simp [hy]))]; rfl
theorem mapM_none_of {α β : Type} (f : α → Option β) : ∀ l : List α, (∃ x ∈ l, f x = none) → l.mapM f = none
  | [], h => by obtain ⟨x, hx, _⟩ := h; cases hx
  | x :: r, h => by
    rw [List.mapM_cons]
    cases hx : f x with
    | none => rfl
    | some y =>
      have : ∃ z ∈ r, f z = none := by
        obtain ⟨z, hz, e⟩ := h
        rcases List.mem_cons.1 hz with rfl | hz
        · rw [hx] at e; cases e
        · exact ⟨z, hz, e⟩
      rw [mapM_none_of f r this]; rfl
theorem mend_eq {l got : List Ver} (hl : ∀ v ∈ l, OfW K V N v) (hg : ∀ g ∈ got, Made K V N g) (hn : ∀ p ∈ needsV l, ∃ g ∈ got, g.key = p.1 ∧ g.id = p.2) : mendV l got = some (l.map (mendW K V l)) :=
  mapM_some_of _ _ l fun y hy => place_eq hl hg hn hy
/-- a want is missing: refused -/
theorem mend_none {l got : List Ver} {p : Wn} (hp : p ∈ needsV l) (hn : ∀ g ∈ got, ¬ (g.key = p.1 ∧ g.id = p.2)) : mendV l got = none := by
  obtain ⟨y, hy, hlt, rfl⟩ := (needs_mem l p).1 hp
  refine mapM_none_of _ l ⟨y, hy, ?_⟩
  unfold placeV
  rw [if_pos hlt, List.find?_eq_none]
  intro g hg
  have := hn g hg
  simp only [Bool.and_eq_true, decide_eq_true_eq]
  exact this
/-- a want names a write that there is, and that has the key -/
theorem want_made {l : List Ver} (hl : ∀ v ∈ l, OfW K V N v) {p : Wn} (hp : p ∈ needsV l) : ∃ n, n < N ∧ p.2 = 65536 * (n + 1) ∧ p.1 ∈ K n := by
  obtain ⟨y, hy, hlt, rfl⟩ := (needs_mem l p).1 hp
  obtain ⟨x, hx, h1, h2, n, hn, hk, e⟩ := most_made hl hlt
  exact ⟨n, hn, by rw [← h2, e]; rfl, by rw [e] at h1; exact h1⟩
/-- each key is wanted once -/
theorem wanted_iff {l : List Ver} (hf : Formed l) {y : Ver} (hy : y ∈ l) : (∃ p ∈ needsV l, p.1 = y.key) ↔ y.id < mostV l y := by
  constructor
  · rintro ⟨p, hp, e⟩
    obtain ⟨z, hz, hlt, rfl⟩ := (needs_mem l p).1 hp
    obtain ⟨i, hi, rfl⟩ := List.getElem_of_mem hy
    obtain ⟨k, hk, rfl⟩ := List.getElem_of_mem hz
    have := hf.keys_inj (i := k) (k := i) hk hi (by simpa [hk, hi] using e)
    subst this
    exact hlt
  · intro h
    exact ⟨_, (needs_mem l _).2 ⟨y, hy, h, rfl⟩, rfl⟩
end Go.Proofs.Ytileipnoiocdlaa
/- The statements' own small functions. -/
namespace Go.Proofs.Ytileipnoiocdlaa
open Go.RowKit Go.Sort Orl
set_option linter.unusedVariables false
set_option linter.unusedSimpArgs false

def I64 (n : Int) : Prop := -9223372036854775808 ≤ n ∧ n ≤ 9223372036854775807
def rst (n : Int) (m : Nat) : Nat := (n % ((m : Int) + 1)).toNat
theorem rst_le (n : Int) (m : Nat) : rst n m ≤ m := by
  unfold rst
  have h1 := Int.emod_nonneg n (show ((m : Int) + 1) ≠ 0 by omega)
  have h2 := Int.emod_lt_of_pos n (show (0 : Int) < (m : Int) + 1 by omega)
  omega
def mkL (zs : List Int) : Tx := zs.foldl (fun r n => r.push (UInt8.ofNat n.toNat)) ByteArray.empty
theorem conv1 (W : World) (B : Nat) (z1 : Int) (h : W.heap[B]? = some (.cells #[.int .u8 z1] 5 (0, 0))) : (convert 55 9 (.slice (some ⟨B, 0, none⟩) 1 1)).run Try.prog W = .ok (.string (mkL [z1])) W := by
  rw [run_convert_bytes_string W 55 9 5 _ 1 1 Try.underlying55 Try.underlying5 Try.underlying9]
  have hload := run_loadCells_list (P := Try.prog) W ⟨B, 0, none⟩ [.int .u8 z1] (by
    intro j u hj
    rw [addr_add, Nat.zero_add, cell_of_blk h]
    simpa using hj)
  exact run_bytesToString W ⟨B, 0, none⟩ 1 1 [z1] hload
theorem own_one (w : World) (x : Tx) : Sl TE (w.alloc (.cells #[.string x] 9)) (some ⟨w.heap.size, 0, none⟩) 1 [x] := by
  refine ⟨.inr ⟨_, 0, rfl, fun j u hj => ?_⟩, by simp, fun e => by cases e⟩
  rw [Nat.zero_add, cell_of_blk (blk_new w _)]
  simpa [El.cells, TE] using hj
def ky (i : Nat) : Tx := mkL [97 + (i : Int)]
theorem ky_size (i : Nat) : (ky i).size = 1 := rfl
/-- of the keys those that a mask says -/
def bitM (mask : Int) (k : Nat) : Bool := bits BinOp.and IntKind.i64 (mask / 2 ^ k) 1 == 1
def setK (mask : Int) (k : Nat) : List Tx := ((List.range k).filter (bitM mask)).map ky
def setM (mask : Int) : List Tx := if setK mask 8 = [] then [ky 0] else setK mask 8
theorem setK_succ (mask : Int) (k : Nat) : setK mask (k + 1) = if bitM mask k = true then setK mask k ++ [ky k] else setK mask k := by
  unfold setK
  rw [List.range_succ, List.filter_append, List.map_append]
  split
  · rename_i h; simp [h]
  · rename_i h; simp [h]
theorem setK_len (mask : Int) (k : Nat) : (setK mask k).length ≤ k := by
  unfold setK
  rw [List.length_map]
  exact Nat.le_trans (List.length_filter_le _ _) (by simp)
theorem setM_len (mask : Int) : 1 ≤ (setM mask).length ∧ (setM mask).length ≤ 8 := by
  unfold setM
  split
  · simp
  · rename_i h
    exact ⟨List.length_pos_iff.2 h, setK_len mask 8⟩
set_option maxRecDepth 10000 in
theorem sameTexts_any (w : World) (oa : Option Addr) (na ca : Nat) (ob : Option Addr) (nb cb : Nat) (sa sb : List Tx) (hna : na = sa.length) (hnb : nb = sb.length) (hla : sa.length ≤ 8796093022000) (hlb : sb.length ≤ 8796093022000) (ha : Sl TE w oa ca sa) (hb : Sl TE w ob cb sb) :
    Calls Try.prog 9 #[.slice oa na ca, .slice ob nb cb] w fun e w' => (∃ B : Bool, e = .returned (.bool B) ∧ Hid (B = true ↔ sa = sb)) ∧ Keeps no w w' := by
  have HA : Hid (na = sa.length) := hna
  have HB : Hid (nb = sb.length) := hnb
  have hA : (na : Int) ≤ 8796093022000 := by omega
  have hB : (nb : Int) ≤ 8796093022000 := by omega
  clear hna hnb hla hlb
  by_cases hne : na = nb
  · subst hne
    go_enter Try.func9, Try.ntmps9
    go_wp2_with fail
    go_loopw [5] (fun i wr => ∃ k m : Nat, k ≤ na ∧ i = .int .i64 k ∧ wr = w.drewN m ∧ Hid (sa.take k = sb.take k)) (fun i _ => na - (intOf i).toNat)
    case atStart => exact ⟨0, 0, by omega, rfl, rfl, show sa.take 0 = sb.take 0 by simp⟩
    case round =>
      obtain ⟨k, m, hk, rfl, rfl, HT⟩ := hrel
      by_cases h2 : k < na
      · have hka : k < sa.length := by have := HA.out; omega
        have hkb : k < sb.length := by have := HB.out; omega
        obtain ⟨b1, off1, rfl, d1⟩ := ha.at hka
        obtain ⟨b2, off2, rfl, d2⟩ := hb.at hkb
        obtain ⟨x, hx⟩ : ∃ x, x = sa.getD k e0 := ⟨_, rfl⟩
        obtain ⟨y, hy⟩ : ∃ y, y = sb.getD k e0 := ⟨_, rfl⟩
        rw [← hx] at d1
        rw [← hy] at d2
        have HX : Hid (x = sa.getD k e0) := hx
        have HY : Hid (y = sb.getD k e0) := hy
        clear hx hy hka hkb
        by_cases hxy : x = y
        · have hxy' : (x.toList == y.toList) = true := by rw [tx_eq]; simpa using hxy
          clear hxy
          go_wp2
          go_quiet (fail)
          go_wp2
          go_roundw
          case rel =>
            refine ⟨k + 1, _, by omega, by go_num, rfl, ?_⟩
            rw [tx_eq, decide_eq_true_eq] at hxy'
            have := HT.out
            show sa.take (k + 1) = sb.take (k + 1)
            rw [take_succ_getD sa k e0 (by have := HA.out; omega), take_succ_getD sb k e0 (by have := HB.out; omega), this, ← HX.out, ← HY.out, hxy']
          case measure => simp [intOf]; omega
        · have hxy' : (x.toList == y.toList) = false := by rw [tx_eq]; simpa using hxy
          go_wp2
          go_quiet (fail)
          go_wp2
          go_ret
          refine ⟨⟨false, rfl, ⟨fun h => (by cases h), fun e => ?_⟩⟩, ((Keeps.refl _ _).drewN _).drewN _⟩
          exact absurd (by rw [HX.out, HY.out, e]) hxy
      · go_wp2
        go_ret
        refine ⟨⟨true, rfl, ⟨fun _ => ?_, fun _ => rfl⟩⟩, (Keeps.refl _ _).drewN _⟩
        have := HT.out
        rwa [List.take_of_length_le (by have := HA.out; omega), List.take_of_length_le (by have := HB.out; omega)] at this
  · have hne' : ¬ ((na : Nat) : Int) = (nb : Nat) := by omega
    go_enter Try.func9, Try.ntmps9
    go_wp2
    go_ret
    refine ⟨⟨false, rfl, ⟨fun h => (by cases h), fun e => ?_⟩⟩, Keeps.refl _ _⟩
    exact absurd (by rw [HA.out, HB.out, e]) hne


end Go.Proofs.Ytileipnoiocdlaa
/- same: two lists of versions. -/
namespace Go.Proofs.Ytileipnoiocdlaa
open Go.RowKit Go.Sort Orl
set_option linter.unusedVariables false
set_option linter.unusedSimpArgs false

theorem keeps_grown (W : World) (d : Nat) (os : Array Obj) : Keeps no W (Sort.grow (redrawn W d) os) := Keeps.of_below (below_regrown W d os)
theorem grown_keeps {W X : World} (h : Keeps no W X) : ∃ p : Regrown, X = Sort.grow (redrawn W p.d) p.os := regrown_of_below (h.below (Nat.le_refl _) (fun _ h => h.elim))
theorem call_grown {f : FuncId} {args : Array Value} {W : World} {v : Value} (h : ∀ X, Keeps no W X → Calls Try.prog f args X fun e w' => e = .returned v ∧ Keeps no X w') (d : Nat) (os : Array Obj) :
    Calls Try.prog f args (Sort.grow (redrawn W d) os) fun e w'' => e = .returned v ∧ ∃ p : Regrown, w'' = Sort.grow (redrawn W p.d) p.os :=
  (h _ (keeps_grown W d os)).mono fun e w' ⟨he, hk⟩ => ⟨he, grown_keeps ((keeps_grown W d os).trans hk)⟩
theorem sameT_grown {W : World} (oa : Option Addr) (na ca : Nat) (ob : Option Addr) (nb cb : Nat) (sa sb : List Tx) (hna : na = sa.length) (hnb : nb = sb.length) (hla : sa.length ≤ 8796093022000) (hlb : sb.length ≤ 8796093022000) (ha : Sl TE W oa ca sa) (hb : Sl TE W ob cb sb) (d : Nat) (os : Array Obj) :
    Calls Try.prog 9 #[.slice oa na ca, .slice ob nb cb] (Sort.grow (redrawn W d) os) fun e w'' => e = .returned (.bool (decide (sa = sb))) ∧ ∃ p : Regrown, w'' = Sort.grow (redrawn W p.d) p.os :=
  call_grown (fun X hX => (sameTexts_any X oa na ca ob nb cb sa sb hna hnb hla hlb (ha.keepsN hX) (hb.keepsN hX)).mono fun e w' ⟨⟨B, he, hB⟩, hk⟩ => ⟨by rw [he]; congr 2; exact Bool.eq_iff_iff.2 (by rw [hB.out, decide_eq_true_eq]), hk⟩) d os
theorem ver_eq (x y : Ver) : x = y ↔ x.key = y.key ∧ x.id = y.id ∧ x.val = y.val ∧ x.keys = y.keys := by
  cases x; cases y; simp
end Go.Proofs.Ytileipnoiocdlaa
/- The document's Rising, ID, one. -/
namespace Go.Proofs.Ytileipnoiocdlaa
open Go.RowKit Go.Sort Orl
set_option linter.unusedVariables false
set_option linter.unusedSimpArgs false

theorem rising_take_succ (xs : List Tx) (k : Nat) (hk : k + 1 < xs.length) : rising lts (xs.take (k + 2)) = (rising lts (xs.take (k + 1)) && lts (xs.getD k e0) (xs.getD (k + 1) e0)) := by
  have key : ∀ n, n < xs.length → (rising lts (xs.take (n + 1)) = true ↔ ∀ i, i + 1 ≤ n → lts (xs.getD i e0) (xs.getD (i + 1) e0) = true) := by
    intro n hn
    have hl : (xs.take (n + 1)).length = n + 1 := by rw [List.length_take]; omega
    have hg : ∀ i, i ≤ n → (xs.take (n + 1)).getD i e0 = xs.getD i e0 := by
      intro i hi
      simp only [List.getD_eq_getElem?_getD, List.getElem?_take]
      rw [if_pos (by omega)]
    constructor
    · intro h i hi
      have h2 := (rising_iff swoT _).1 h
      have := inc_getD h2 e0 (i := i) (j := i + 1) (by omega) (by omega)
      rwa [hg i (by omega), hg (i + 1) (by omega)] at this
    · intro h
      refine rising_of_all e0 _ fun i hi => ?_
      rw [hl] at hi
      rw [hg i (by omega), hg (i + 1) (by omega)]
      exact h i (by omega)
  rw [Bool.eq_iff_iff, Bool.and_eq_true, key (k + 1) hk, key k (by omega)]
  constructor
  · intro h; exact ⟨fun i hi => h i (by omega), h k (by omega)⟩
  · rintro ⟨h1, h2⟩ i hi
    by_cases e : i = k
    · subst e; exact h2
    · exact h1 i (by omega)
theorem rising_fail_take (xs : List Tx) (k : Nat) (hk : k < xs.length) (h : rising lts (xs.take (k + 1)) = false) : rising lts xs = false := by
  rw [← Bool.not_eq_true, rising_iff swoT] at h ⊢
  intro hx
  exact h (List.Pairwise.sublist (List.take_sublist _ _) hx)
theorem oneB_zero (v : Ver) (h : v.id = 0) : oneB v = (decide (v.val = e0) && decide (v.keys.length = 0)) := by unfold oneB; rw [if_pos h]
theorem oneB_pos (v : Ver) (h : ¬ v.id = 0) : oneB v = (decide (65536 ≤ v.id) && (decide (v.keys.length ≤ 1024) && (rising lts v.keys && inn v.keys v.key))) := by unfold oneB; rw [if_neg h]
theorem e0_toList : e0.toList = [] := by rw [Lib.toList_data]; rfl
end Go.Proofs.Ytileipnoiocdlaa
