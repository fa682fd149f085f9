import Derived.Sort.LotA
namespace Go.Proofs.YtbnohdgdadfjlaaGreatDoor
open Go.Sort
set_option linter.unusedVariables false
set_option linter.unusedSimpArgs false
namespace Orl
variable {α : Type} {lt : α → α → Bool}

/-- strictly rising -/
def Inc (lt : α → α → Bool) (l : List α) : Prop := l.Pairwise (fun a b => lt a b = true)
/-- in order -/
def Weak (lt : α → α → Bool) (l : List α) : Prop := l.Pairwise (fun a b => lt b a = false)

def rising (lt : α → α → Bool) : List α → Bool
  | [] => true
  | [_] => true
  | x :: y :: r => lt x y && rising lt (y :: r)

theorem asym (h : SWO lt) {x y : α} (hxy : lt x y = true) : lt y x = false := by
  cases hyx : lt y x with
  | false => rfl
  | true => have := h.trans x y x hxy hyx; rw [h.irrefl] at this; cases this

theorem rising_iff (h : SWO lt) : ∀ l : List α, rising lt l = true ↔ Inc lt l
  | [] => by simp [rising, Inc]
  | [x] => by simp [rising, Inc]
  | x :: y :: r => by
    have ih := rising_iff h (y :: r)
    simp only [rising, Bool.and_eq_true, ih]
    unfold Inc
    constructor
    · rintro ⟨h1, h2⟩
      refine List.pairwise_cons.2 ⟨?_, h2⟩
      intro z hz
      rcases List.mem_cons.1 hz with rfl | hz
      · exact h1
      · exact h.trans _ _ _ h1 ((List.pairwise_cons.1 h2).1 z hz)
    · intro hp
      exact ⟨(List.pairwise_cons.1 hp).1 y (by simp), (List.pairwise_cons.1 hp).2⟩

theorem rising_of_all (d : α) : ∀ l : List α, (∀ i, i + 1 < l.length → lt (l.getD i d) (l.getD (i + 1) d) = true) → rising lt l = true
  | [], _ => rfl
  | [_], _ => rfl
  | x :: y :: r, h => by
    simp only [rising, Bool.and_eq_true]
    refine ⟨by simpa using h 0 (by simp), rising_of_all d (y :: r) fun i hi => ?_⟩
    have := h (i + 1) (by simpa using hi)
    simpa using this
theorem rising_fail (d : α) : ∀ (l : List α) (i : Nat), i + 1 < l.length → lt (l.getD i d) (l.getD (i + 1) d) = false → rising lt l = false
  | [], i, hi, _ => by simp at hi
  | [_], i, hi, _ => by simp at hi
  | x :: y :: r, 0, hi, h => by simp at h; simp [rising, h]
  | x :: y :: r, i + 1, hi, h => by
    have := rising_fail d (y :: r) i (by simpa using hi) (by simpa using h)
    simp [rising, this]

theorem inc_weak (h : SWO lt) {l : List α} (hl : Inc lt l) : Weak lt l := List.Pairwise.imp (fun hab => asym h hab) hl
theorem inc_nodup (h : SWO lt) {l : List α} (hl : Inc lt l) : l.Nodup := List.Pairwise.imp (fun {a b} hab => by rintro rfl; rw [h.irrefl] at hab; cases hab) hl

theorem inc_ext (h : SWO lt) : ∀ {l1 l2 : List α}, Inc lt l1 → Inc lt l2 → (∀ x, x ∈ l1 ↔ x ∈ l2) → l1 = l2
  | [], [], _, _, _ => rfl
  | [], y :: r, _, _, hm => by have := (hm y).2 (by simp); simp at this
  | x :: r, [], _, _, hm => by have := (hm x).1 (by simp); simp at this
  | x :: r1, y :: r2, h1, h2, hm => by
    have p1 := List.pairwise_cons.1 h1
    have p2 := List.pairwise_cons.1 h2
    have hxy : x = y := by
      rcases List.mem_cons.1 ((hm x).1 (by simp)) with e | hx
      · exact e
      · rcases List.mem_cons.1 ((hm y).2 (by simp)) with e | hy
        · exact e.symm
        · have a := p2.1 x hx
          have b := p1.1 y hy
          rw [asym h a] at b
          cases b
    subst hxy
    rw [inc_ext h p1.2 p2.2 fun z => ?_]
    constructor
    · intro hz
      rcases List.mem_cons.1 ((hm z).1 (by simp [hz])) with rfl | h'
      · have := p1.1 z hz; rw [h.irrefl] at this; cases this
      · exact h'
    · intro hz
      rcases List.mem_cons.1 ((hm z).2 (by simp [hz])) with rfl | h'
      · have := p2.1 z hz; rw [h.irrefl] at this; cases this
      · exact h'
theorem inc_perm (h : SWO lt) {l1 l2 : List α} (h1 : Inc lt l1) (h2 : Inc lt l2) (hp : l1.Perm l2) : l1 = l2 := inc_ext h h1 h2 fun x => hp.mem_iff

/-- two that neither stands below are one -/
def Tri (lt : α → α → Bool) : Prop := ∀ x y, lt x y = false → lt y x = false → x = y

theorem weak_inc (ht : Tri lt) {l : List α} (hl : Weak lt l) (hn : l.Nodup) : Inc lt l := by
  refine List.Pairwise.imp₂ (fun a b hab hne => ?_) hl hn
  cases e : lt a b with
  | true => rfl
  | false => exact absurd (ht a b e hab) hne

theorem weak_perm (h : SWO lt) (ht : Tri lt) : ∀ {l1 l2 : List α}, Weak lt l1 → Weak lt l2 → l1.Perm l2 → l1 = l2
  | [], [], _, _, _ => rfl
  | [], y :: r, _, _, hm => by have := hm.length_eq; simp at this
  | x :: r, [], _, _, hm => by have := hm.length_eq; simp at this
  | x :: r1, y :: r2, h1, h2, hm => by
    have p1 := List.pairwise_cons.1 h1
    have p2 := List.pairwise_cons.1 h2
    have hxy : x = y := by
      rcases List.mem_cons.1 (hm.mem_iff.1 (show x ∈ x :: r1 by simp)) with e | hx
      · exact e
      · rcases List.mem_cons.1 (hm.mem_iff.2 (show y ∈ y :: r2 by simp)) with e | hy
        · exact e.symm
        · exact ht x y (p2.1 x hx) (p1.1 y hy)
    subst hxy
    rw [weak_perm h ht p1.2 p2.2 ((List.perm_cons x).1 hm)]

/-! ### a text put into its place -/
def pos (lt : α → α → Bool) (d : α) (l : List α) (s : α) : Nat → Nat
  | 0 => 0
  | i + 1 => if lt s (l.getD i d) then pos lt d l s i else i + 1
def put (lt : α → α → Bool) (d : α) (l : List α) (s : α) : List α := l.take (pos lt d l s l.length) ++ s :: l.drop (pos lt d l s l.length)

theorem pos_le (d : α) (l : List α) (s : α) : ∀ i, pos lt d l s i ≤ i
  | 0 => Nat.le_refl _
  | i + 1 => by
    unfold pos
    split
    · exact Nat.le_succ_of_le (pos_le d l s i)
    · exact Nat.le_refl _
theorem pos_above (d : α) (l : List α) (s : α) : ∀ i j, pos lt d l s i ≤ j → j < i → lt s (l.getD j d) = true
  | 0, j, _, h => by omega
  | i + 1, j, h1, h2 => by
    unfold pos at h1
    split at h1
    · rename_i hs
      by_cases e : j = i
      · subst e; exact hs
      · exact pos_above d l s i j h1 (by omega)
    · omega
theorem pos_at (d : α) (l : List α) (s : α) : ∀ i, 0 < pos lt d l s i → lt s (l.getD (pos lt d l s i - 1) d) = false
  | 0, h => by simp [pos] at h
  | i + 1, h => by
    unfold pos at h ⊢
    split
    · rename_i hs
      rw [if_pos hs] at h
      exact pos_at d l s i h
    · rename_i hs
      simpa using hs
theorem put_perm (d : α) (l : List α) (s : α) : (put lt d l s).Perm (s :: l) := by
  unfold put
  refine List.perm_middle.trans ?_
  rw [List.take_append_drop]
theorem put_mem (d : α) (l : List α) (s z : α) : z ∈ put lt d l s ↔ z = s ∨ z ∈ l := by
  rw [(put_perm d l s).mem_iff]; simp
theorem put_length (d : α) (l : List α) (s : α) : (put lt d l s).length = l.length + 1 := by
  rw [(put_perm d l s).length_eq]; simp

theorem getD_mem_lt {l : List α} {j : Nat} (d : α) (h : j < l.length) : l.getD j d ∈ l := by
  simp [h]
theorem weak_getD (h : SWO lt) {l : List α} (hl : Weak lt l) (d : α) {i j : Nat} (hij : i ≤ j) (hj : j < l.length) : lt (l.getD j d) (l.getD i d) = false := by
  by_cases e : i = j
  · subst e; exact h.irrefl _
  · have := List.pairwise_iff_getElem.1 hl i j (by omega) hj (by omega)
    simpa [hj, show i < l.length by omega] using this
theorem inc_getD {l : List α} (hl : Inc lt l) (d : α) {i j : Nat} (hij : i < j) (hj : j < l.length) : lt (l.getD i d) (l.getD j d) = true := by
  have := List.pairwise_iff_getElem.1 hl i j (by omega) hj (by omega)
  simpa [hj, show i < l.length by omega] using this
theorem put_weak (h : SWO lt) (d : α) {l : List α} (hl : Weak lt l) (s : α) : Weak lt (put lt d l s) := by
  unfold put Weak
  have hle := pos_le (lt := lt) d l s l.length
  have hA := pos_above (lt := lt) d l s l.length
  have hB := pos_at (lt := lt) d l s l.length
  generalize pos lt d l s l.length = p at *
  have hl' : Weak lt (l.take p ++ l.drop p) := by rw [List.take_append_drop]; exact hl
  have h3 := List.pairwise_append.1 hl'
  refine List.pairwise_append.2 ⟨h3.1, List.pairwise_cons.2 ⟨?_, h3.2.1⟩, ?_⟩
  · intro b hb
    obtain ⟨j, hj, rfl⟩ := List.getElem_of_mem hb
    rw [List.length_drop] at hj
    have := hA (p + j) (by omega) (by omega)
    simp [show p + j < l.length by omega] at this
    simpa using asym h this
  · intro a ha b hb
    rcases List.mem_cons.1 hb with rfl | hb
    · obtain ⟨j, hj, rfl⟩ := List.getElem_of_mem ha
      rw [List.length_take] at hj
      have h1 := hB (by omega)
      have h2 := weak_getD h hl d (i := j) (j := p - 1) (by omega) (by omega)
      have := h.ntrans _ _ _ h1 h2
      simpa [show j < l.length by omega] using this
    · exact h3.2.2 a ha b hb
theorem put_inc (h : SWO lt) (ht : Tri lt) (d : α) {l : List α} (hl : Inc lt l) {s : α} (hs : s ∉ l) : Inc lt (put lt d l s) :=
  weak_inc ht (put_weak h d (inc_weak h hl) s) ((put_perm d l s).nodup_iff.2 (List.nodup_cons.2 ⟨hs, inc_nodup h hl⟩))

def isort (lt : α → α → Bool) (d : α) (l : List α) : List α := l.foldl (put lt d) []
theorem fold_perm (d : α) : ∀ (l o : List α), (l.foldl (put lt d) o).Perm (o ++ l)
  | [], o => by simp
  | x :: r, o => by
    simp only [List.foldl_cons]
    refine (fold_perm d r _).trans ?_
    refine ((put_perm d o x).append_right r).trans ?_
    exact List.perm_middle.symm
theorem isort_perm (d : α) (l : List α) : (isort lt d l).Perm l := by
  have := fold_perm (lt := lt) d l []
  rwa [List.nil_append] at this
theorem fold_weak (h : SWO lt) (d : α) : ∀ (l o : List α), Weak lt o → Weak lt (l.foldl (put lt d) o)
  | [], o, ho => ho
  | x :: r, o, ho => fold_weak h d r _ (put_weak h d ho x)
theorem isort_weak (h : SWO lt) (d : α) (l : List α) : Weak lt (isort lt d l) := fold_weak h d l [] List.Pairwise.nil
theorem isort_snoc (d : α) (l : List α) (x : α) : isort lt d (l ++ [x]) = put lt d (isort lt d l) x := by simp [isort]
theorem isort_length (d : α) (l : List α) : (isort lt d l).length = l.length := (isort_perm d l).length_eq
theorem isort_congr (h : SWO lt) (ht : Tri lt) (d : α) {l1 l2 : List α} (hp : l1.Perm l2) : isort lt d l1 = isort lt d l2 :=
  weak_perm h ht (isort_weak h d l1) (isort_weak h d l2) ((isort_perm d l1).trans (hp.trans (isort_perm d l2).symm))
theorem isort_inc (h : SWO lt) (d : α) {l : List α} (hl : Inc lt l) (ht : Tri lt) : isort lt d l = l :=
  weak_perm h ht (isort_weak h d l) (inc_weak h hl) (isort_perm d l)
theorem isort_rising (h : SWO lt) (ht : Tri lt) (d : α) (l : List α) : rising lt (isort lt d l) = true ↔ l.Nodup := by
  rw [rising_iff h]
  constructor
  · intro hi; exact (isort_perm d l).nodup_iff.1 (inc_nodup h hi)
  · intro hn; exact weak_inc ht (isort_weak h d l) ((isort_perm d l).nodup_iff.2 hn)

/-! ### what is taken of two lists -/
def opt (b : Bool) (l : List α) : List α := if b then l else []
def mgf (lt : α → α → Bool) (f b s : Bool) : Nat → List α → List α → List α
  | 0, l1, l2 => opt f l1 ++ opt s l2
  | _ + 1, [], l2 => opt s l2
  | _ + 1, x :: r1, [] => opt f (x :: r1)
  | n + 1, x :: r1, y :: r2 => if lt x y then opt f [x] ++ mgf lt f b s n r1 (y :: r2) else if lt y x then opt s [y] ++ mgf lt f b s n (x :: r1) r2 else opt b [x] ++ mgf lt f b s n r1 r2
def mg (lt : α → α → Bool) (f b s : Bool) (l1 l2 : List α) : List α := mgf lt f b s (l1.length + l2.length) l1 l2
theorem opt_nil (b : Bool) : opt b ([] : List α) = [] := by cases b <;> rfl
theorem mgf_fuel (f b s : Bool) : ∀ (n m : Nat) (l1 l2 : List α), l1.length + l2.length ≤ n → l1.length + l2.length ≤ m → mgf lt f b s n l1 l2 = mgf lt f b s m l1 l2
  | 0, m, l1, l2, h1, _ => by
    obtain rfl : l1 = [] := List.length_eq_zero_iff.1 (by omega)
    obtain rfl : l2 = [] := by simpa using h1
    cases m <;> simp [mgf, opt_nil]
  | n + 1, 0, l1, l2, _, h1 => by
    obtain rfl : l1 = [] := List.length_eq_zero_iff.1 (by omega)
    obtain rfl : l2 = [] := by simpa using h1
    simp [mgf, opt_nil]
  | n + 1, m + 1, [], l2, _, _ => rfl
  | n + 1, m + 1, x :: r1, [], _, _ => rfl
  | n + 1, m + 1, x :: r1, y :: r2, h1, h2 => by
    simp only [List.length_cons] at h1 h2
    unfold mgf
    rw [mgf_fuel f b s n m r1 (y :: r2) (by simp; omega) (by simp; omega), mgf_fuel f b s n m (x :: r1) r2 (by simp; omega) (by simp; omega), mgf_fuel f b s n m r1 r2 (by omega) (by omega)]
theorem mg_nil1 (f b s : Bool) (l : List α) : mg lt f b s [] l = opt s l := by
  unfold mg; cases l <;> simp [mgf, opt_nil]
theorem mg_nil2 (f b s : Bool) (l : List α) : mg lt f b s l [] = opt f l := by
  unfold mg; cases l <;> simp [mgf, opt_nil]
theorem mg_cons (f b s : Bool) (x y : α) (r1 r2 : List α) : mg lt f b s (x :: r1) (y :: r2) = if lt x y then opt f [x] ++ mg lt f b s r1 (y :: r2) else if lt y x then opt s [y] ++ mg lt f b s (x :: r1) r2 else opt b [x] ++ mg lt f b s r1 r2 := by
  unfold mg
  rw [show (x :: r1).length + (y :: r2).length = (r1.length + r2.length + 1) + 1 by simp; omega]
  rw [mgf]
  rw [mgf_fuel f b s (r1.length + r2.length + 1) (r1.length + (y :: r2).length) r1 (y :: r2) (by simp; omega) (by simp), mgf_fuel f b s (r1.length + r2.length + 1) ((x :: r1).length + r2.length) (x :: r1) r2 (by simp; omega) (by simp), mgf_fuel f b s (r1.length + r2.length + 1) (r1.length + r2.length) r1 r2 (by omega) (by omega)]
theorem opt_mem (b : Bool) (l : List α) (z : α) : z ∈ opt b l ↔ b = true ∧ z ∈ l := by cases b <;> simp [opt]

theorem mg_memN (h : SWO lt) (ht : Tri lt) (f b s : Bool) (z : α) : ∀ (n : Nat) (l1 l2 : List α), l1.length + l2.length ≤ n → Inc lt l1 → Inc lt l2 →
    (z ∈ mg lt f b s l1 l2 ↔ (f = true ∧ z ∈ l1 ∧ z ∉ l2) ∨ (b = true ∧ z ∈ l1 ∧ z ∈ l2) ∨ (s = true ∧ z ∉ l1 ∧ z ∈ l2))
  | _, [], l2, _, _, _ => by simp [mg_nil1, opt_mem]
  | _, x :: r1, [], _, _, _ => by simp [mg_nil2, opt_mem]
  | 0, x :: r1, y :: r2, hn, _, _ => by simp at hn
  | n + 1, x :: r1, y :: r2, hn, h1, h2 => by
    simp only [List.length_cons] at hn
    have p1 := List.pairwise_cons.1 h1
    have p2 := List.pairwise_cons.1 h2
    rw [mg_cons]
    by_cases e1 : lt x y = true
    · have hx : x ∉ y :: r2 := by
        intro hm
        rcases List.mem_cons.1 hm with rfl | hm
        · rw [h.irrefl] at e1; cases e1
        · have := h.trans _ _ _ e1 (p2.1 x hm); rw [h.irrefl] at this; cases this
      have hx1 : x ∉ r1 := fun hm => by have := p1.1 x hm; rw [h.irrefl] at this; cases this
      rw [if_pos e1, List.mem_append, opt_mem, mg_memN h ht f b s z n r1 (y :: r2) (by simp; omega) p1.2 h2]
      by_cases hz : z = x
      · subst hz; simp [hx, hx1]
      · simp [hz]
    · by_cases e2 : lt y x = true
      · have hx : y ∉ x :: r1 := by
          intro hm
          rcases List.mem_cons.1 hm with rfl | hm
          · rw [h.irrefl] at e2; cases e2
          · have := h.trans _ _ _ e2 (p1.1 y hm); rw [h.irrefl] at this; cases this
        have hx1 : y ∉ r2 := fun hm => by have := p2.1 y hm; rw [h.irrefl] at this; cases this
        rw [if_neg e1, if_pos e2, List.mem_append, opt_mem, mg_memN h ht f b s z n (x :: r1) r2 (by simp; omega) h1 p2.2]
        by_cases hz : z = y
        · subst hz; simp [hx, hx1]
        · simp [hz]
      · have exy : x = y := ht x y (by simpa using e1) (by simpa using e2)
        subst exy
        have hx1 : x ∉ r1 := fun hm => by have := p1.1 x hm; rw [h.irrefl] at this; cases this
        have hx2 : x ∉ r2 := fun hm => by have := p2.1 x hm; rw [h.irrefl] at this; cases this
        rw [if_neg e1, if_neg e2, List.mem_append, opt_mem, mg_memN h ht f b s z n r1 r2 (by omega) p1.2 p2.2]
        by_cases hz : z = x
        · subst hz; simp [hx1, hx2]
        · simp [hz]
theorem mg_mem (h : SWO lt) (ht : Tri lt) (f b s : Bool) (z : α) (l1 l2 : List α) (h1 : Inc lt l1) (h2 : Inc lt l2) :
    (z ∈ mg lt f b s l1 l2 ↔ (f = true ∧ z ∈ l1 ∧ z ∉ l2) ∨ (b = true ∧ z ∈ l1 ∧ z ∈ l2) ∨ (s = true ∧ z ∉ l1 ∧ z ∈ l2)) := mg_memN h ht f b s z _ l1 l2 (Nat.le_refl _) h1 h2

theorem mg_incN (h : SWO lt) (ht : Tri lt) (f b s : Bool) : ∀ (n : Nat) (l1 l2 : List α), l1.length + l2.length ≤ n → Inc lt l1 → Inc lt l2 → Inc lt (mg lt f b s l1 l2)
  | _, [], l2, _, _, h2 => by cases s <;> simp [mg_nil1, opt, h2, Inc] ; exact h2
  | _, x :: r1, [], _, h1, _ => by cases f <;> simp [mg_nil2, opt, Inc]; exact List.pairwise_cons.1 h1
  | 0, x :: r1, y :: r2, hn, _, _ => by simp at hn
  | n + 1, x :: r1, y :: r2, hn, h1, h2 => by
    simp only [List.length_cons] at hn
    have p1 := List.pairwise_cons.1 h1
    have p2 := List.pairwise_cons.1 h2
    have key : ∀ (c : Bool) (v : α) (m : List α), Inc lt m → (∀ z ∈ m, lt v z = true) → Inc lt (opt c [v] ++ m) := by
      intro c v m hm hv
      cases c
      · simpa [opt] using hm
      · exact List.pairwise_cons.2 ⟨hv, hm⟩
    rw [mg_cons]
    by_cases e1 : lt x y = true
    · rw [if_pos e1]
      refine key f x _ (mg_incN h ht f b s n r1 (y :: r2) (by simp; omega) p1.2 h2) fun z hz => ?_
      rw [mg_mem h ht f b s z r1 (y :: r2) p1.2 h2] at hz
      have hz' : z ∈ r1 ∨ z ∈ y :: r2 := by rcases hz with ⟨_, a, _⟩ | ⟨_, a, _⟩ | ⟨_, _, a⟩ <;> simp [a]
      rcases hz' with hz | hz
      · exact p1.1 z hz
      · rcases List.mem_cons.1 hz with rfl | hz
        · exact e1
        · exact h.trans _ _ _ e1 (p2.1 z hz)
    · by_cases e2 : lt y x = true
      · rw [if_neg e1, if_pos e2]
        refine key s y _ (mg_incN h ht f b s n (x :: r1) r2 (by simp; omega) h1 p2.2) fun z hz => ?_
        rw [mg_mem h ht f b s z (x :: r1) r2 h1 p2.2] at hz
        have hz' : z ∈ x :: r1 ∨ z ∈ r2 := by rcases hz with ⟨_, a, _⟩ | ⟨_, a, _⟩ | ⟨_, _, a⟩ <;> simp [a]
        rcases hz' with hz | hz
        · rcases List.mem_cons.1 hz with rfl | hz
          · exact e2
          · exact h.trans _ _ _ e2 (p1.1 z hz)
        · exact p2.1 z hz
      · have exy : x = y := ht x y (by simpa using e1) (by simpa using e2)
        subst exy
        rw [if_neg e1, if_neg e2]
        refine key b x _ (mg_incN h ht f b s n r1 r2 (by omega) p1.2 p2.2) fun z hz => ?_
        rw [mg_mem h ht f b s z r1 r2 p1.2 p2.2] at hz
        have hz' : z ∈ r1 ∨ z ∈ r2 := by rcases hz with ⟨_, a, _⟩ | ⟨_, a, _⟩ | ⟨_, _, a⟩ <;> simp [a]
        rcases hz' with hz | hz
        · exact p1.1 z hz
        · exact p2.1 z hz
theorem mg_inc (h : SWO lt) (ht : Tri lt) (f b s : Bool) (l1 l2 : List α) (h1 : Inc lt l1) (h2 : Inc lt l2) : Inc lt (mg lt f b s l1 l2) := mg_incN h ht f b s _ l1 l2 (Nat.le_refl _) h1 h2

theorem mg_lenN (lt : α → α → Bool) : ∀ (n : Nat) (l1 l2 : List α), l1.length + l2.length ≤ n → (mg lt true true true l1 l2).length + (mg lt false true false l1 l2).length = l1.length + l2.length ∧ (mg lt true false false l1 l2).length + (mg lt false true false l1 l2).length = l1.length
  | _, [], l2, _ => by simp [mg_nil1, opt]
  | _, x :: r1, [], _ => by simp [mg_nil2, opt]
  | 0, x :: r1, y :: r2, hn => by simp at hn
  | n + 1, x :: r1, y :: r2, hn => by
    simp only [List.length_cons] at hn
    simp only [mg_cons]
    by_cases e1 : lt x y = true
    · have := mg_lenN lt n r1 (y :: r2) (by simp; omega)
      simp only [if_pos e1, opt, List.length_append, List.length_cons, List.length_nil, if_true, Bool.false_eq_true, if_false] at this ⊢
      omega
    · by_cases e2 : lt y x = true
      · have := mg_lenN lt n (x :: r1) r2 (by simp; omega)
        simp only [if_neg e1, if_pos e2, opt, List.length_append, List.length_cons, List.length_nil, if_true, Bool.false_eq_true, if_false] at this ⊢
        omega
      · have := mg_lenN lt n r1 r2 (by omega)
        simp only [if_neg e1, if_neg e2, opt, List.length_append, List.length_cons, List.length_nil, if_true, Bool.false_eq_true, if_false] at this ⊢
        omega
theorem mg_len (lt : α → α → Bool) (l1 l2 : List α) : (mg lt true true true l1 l2).length + (mg lt false true false l1 l2).length = l1.length + l2.length ∧ (mg lt true false false l1 l2).length + (mg lt false true false l1 l2).length = l1.length := mg_lenN lt _ l1 l2 (Nat.le_refl _)
theorem mg_length_leN (f b s : Bool) : ∀ (n : Nat) (l1 l2 : List α), l1.length + l2.length ≤ n → (mg lt f b s l1 l2).length ≤ l1.length + l2.length
  | _, [], l2, _ => by cases s <;> simp [mg_nil1, opt]
  | _, x :: r1, [], _ => by cases f <;> simp [mg_nil2, opt]
  | 0, x :: r1, y :: r2, hn => by simp at hn
  | n + 1, x :: r1, y :: r2, hn => by
    simp only [List.length_cons] at hn
    have ho : ∀ (c : Bool) (v : α), (opt c [v]).length ≤ 1 := by intro c v; cases c <;> simp [opt]
    rw [mg_cons]
    split
    · have := mg_length_leN f b s n r1 (y :: r2) (by simp; omega)
      have := ho f x
      simp only [List.length_append, List.length_cons] at *
      omega
    · split
      · have := mg_length_leN f b s n (x :: r1) r2 (by simp; omega)
        have := ho s y
        simp only [List.length_append, List.length_cons] at *
        omega
      · have := mg_length_leN f b s n r1 r2 (by omega)
        have := ho b x
        simp only [List.length_append, List.length_cons] at *
        omega
theorem mg_length_le (f b s : Bool) (l1 l2 : List α) : (mg lt f b s l1 l2).length ≤ l1.length + l2.length := mg_length_leN f b s _ l1 l2 (Nat.le_refl _)
end Orl
end Go.Proofs.YtbnohdgdadfjlaaGreatDoor
