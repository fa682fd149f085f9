import Derived.Sort.LotA
import Derived.Test.YtjkljljmjjnneaaGreatDoorRows
import Derived.WalkKit
import Derived.Lib.Walk
import Derived.Lib.AppendStr
import Derived.Maps.AppendAt
import Derived.Laws.AppendOwnNone
import Derived.Laws.BytesString
import Derived.Laws.Cover1
import Derived.Deep.QuietTactic
import Derived.BigQuiet
import Derived.Deep.RegionWith
import Derived.Deep.DeepMust
import Derived.Lib.SliceRun
import Derived.Deep.Cut
import Derived.Deep.CutRange
import Derived.RegionTactic
import Derived.Sort.Walk0
namespace Go.Proofs.YtjkljljmjjnneaaGreatDoor
open Go.Sort
set_option linter.unusedVariables false
set_option linter.unusedSimpArgs false
namespace Orl
variable {α : Type} {lt : α → α → Bool}

/-- strictly rising -/
def Inc (lt : α → α → Bool) (l : List α) : Prop := l.Pairwise (fun a b => lt a b = true)
/-- in order -/
def Weak (lt : α → α → Bool) (l : List α) : Prop := l.Pairwise (fun a b => lt b a = false)

def rising (lt : α → α → Bool) : List α → Bool
  | [] => true
  | [_] => true
  | x :: y :: r => lt x y && rising lt (y :: r)

theorem asym (h : SWO lt) {x y : α} (hxy : lt x y = true) : lt y x = false := by
  cases hyx : lt y x with
  | false => rfl
  | true => have := h.trans x y x hxy hyx; rw [h.irrefl] at this; cases this

theorem rising_iff (h : SWO lt) : ∀ l : List α, rising lt l = true ↔ Inc lt l
  | [] => by simp [rising, Inc]
  | [x] => by simp [rising, Inc]
  | x :: y :: r => by
    have ih := rising_iff h (y :: r)
    simp only [rising, Bool.and_eq_true, ih]
    unfold Inc
    constructor
    · rintro ⟨h1, h2⟩
      refine List.pairwise_cons.2 ⟨?_, h2⟩
      intro z hz
      rcases List.mem_cons.1 hz with rfl | hz
      · exact h1
      · exact h.trans _ _ _ h1 ((List.pairwise_cons.1 h2).1 z hz)
    · intro hp
      exact ⟨(List.pairwise_cons.1 hp).1 y (by simp), (List.pairwise_cons.1 hp).2⟩

theorem rising_of_all (d : α) : ∀ l : List α, (∀ i, i + 1 < l.length → lt (l.getD i d) (l.getD (i + 1) d) = true) → rising lt l = true
  | [], _ => rfl
  | [_], _ => rfl
  | x :: y :: r, h => by
    simp only [rising, Bool.and_eq_true]
    refine ⟨by simpa using h 0 (by simp), rising_of_all d (y :: r) fun i hi => ?_⟩
    have := h (i + 1) (by simpa using hi)
    simpa using this
theorem rising_fail (d : α) : ∀ (l : List α) (i : Nat), i + 1 < l.length → lt (l.getD i d) (l.getD (i + 1) d) = false → rising lt l = false
  | [], i, hi, _ => by simp at hi
  | [_], i, hi, _ => by simp at hi
  | x :: y :: r, 0, hi, h => by simp at h; simp [rising, h]
  | x :: y :: r, i + 1, hi, h => by
    have := rising_fail d (y :: r) i (by simpa using hi) (by simpa using h)
    simp [rising, this]

theorem inc_weak (h : SWO lt) {l : List α} (hl : Inc lt l) : Weak lt l := List.Pairwise.imp (fun hab => asym h hab) hl
theorem inc_nodup (h : SWO lt) {l : List α} (hl : Inc lt l) : l.Nodup := List.Pairwise.imp (fun {a b} hab => by rintro rfl; rw [h.irrefl] at hab; cases hab) hl

theorem inc_ext (h : SWO lt) : ∀ {l1 l2 : List α}, Inc lt l1 → Inc lt l2 → (∀ x, x ∈ l1 ↔ x ∈ l2) → l1 = l2
  | [], [], _, _, _ => rfl
  | [], y :: r, _, _, hm => by have := (hm y).2 (by simp); simp at this
  | x :: r, [], _, _, hm => by have := (hm x).1 (by simp); simp at this
  | x :: r1, y :: r2, h1, h2, hm => by
    have p1 := List.pairwise_cons.1 h1
    have p2 := List.pairwise_cons.1 h2
    have hxy : x = y := by
      rcases List.mem_cons.1 ((hm x).1 (by simp)) with e | hx
      · exact e
      · rcases List.mem_cons.1 ((hm y).2 (by simp)) with e | hy
        · exact e.symm
        · have a := p2.1 x hx
          have b := p1.1 y hy
          rw [asym h a] at b
          cases b
    subst hxy
    rw [inc_ext h p1.2 p2.2 fun z => ?_]
    constructor
    · intro hz
      rcases List.mem_cons.1 ((hm z).1 (by simp [hz])) with rfl | h'
      · have := p1.1 z hz; rw [h.irrefl] at this; cases this
      · exact h'
    · intro hz
      rcases List.mem_cons.1 ((hm z).2 (by simp [hz])) with rfl | h'
      · have := p2.1 z hz; rw [h.irrefl] at this; cases this
      · exact h'
theorem inc_perm (h : SWO lt) {l1 l2 : List α} (h1 : Inc lt l1) (h2 : Inc lt l2) (hp : l1.Perm l2) : l1 = l2 := inc_ext h h1 h2 fun x => hp.mem_iff

/-- two that neither stands below are one -/
def Tri (lt : α → α → Bool) : Prop := ∀ x y, lt x y = false → lt y x = false → x = y

theorem weak_inc (ht : Tri lt) {l : List α} (hl : Weak lt l) (hn : l.Nodup) : Inc lt l := by
  refine List.Pairwise.imp₂ (fun a b hab hne => ?_) hl hn
  cases e : lt a b with
  | true => rfl
  | false => exact absurd (ht a b e hab) hne

theorem weak_perm (h : SWO lt) (ht : Tri lt) : ∀ {l1 l2 : List α}, Weak lt l1 → Weak lt l2 → l1.Perm l2 → l1 = l2
  | [], [], _, _, _ => rfl
  | [], y :: r, _, _, hm => by have := hm.length_eq; simp at this
  | x :: r, [], _, _, hm => by have := hm.length_eq; simp at this
  | x :: r1, y :: r2, h1, h2, hm => by
    have p1 := List.pairwise_cons.1 h1
    have p2 := List.pairwise_cons.1 h2
    have hxy : x = y := by
      rcases List.mem_cons.1 (hm.mem_iff.1 (show x ∈ x :: r1 by simp)) with e | hx
      · exact e
      · rcases List.mem_cons.1 (hm.mem_iff.2 (show y ∈ y :: r2 by simp)) with e | hy
        · exact e.symm
        · exact ht x y (p2.1 x hx) (p1.1 y hy)
    subst hxy
    rw [weak_perm h ht p1.2 p2.2 ((List.perm_cons x).1 hm)]

/-! ### a text put into its place -/
def pos (lt : α → α → Bool) (d : α) (l : List α) (s : α) : Nat → Nat
  | 0 => 0
  | i + 1 => if lt s (l.getD i d) then pos lt d l s i else i + 1
def put (lt : α → α → Bool) (d : α) (l : List α) (s : α) : List α := l.take (pos lt d l s l.length) ++ s :: l.drop (pos lt d l s l.length)

theorem pos_le (d : α) (l : List α) (s : α) : ∀ i, pos lt d l s i ≤ i
  | 0 => Nat.le_refl _
  | i + 1 => by
    unfold pos
    split
    · exact Nat.le_succ_of_le (pos_le d l s i)
    · exact Nat.le_refl _
theorem pos_above (d : α) (l : List α) (s : α) : ∀ i j, pos lt d l s i ≤ j → j < i → lt s (l.getD j d) = true
  | 0, j, _, h => by omega
  | i + 1, j, h1, h2 => by
    unfold pos at h1
    split at h1
    · rename_i hs
      by_cases e : j = i
      · subst e; exact hs
      · exact pos_above d l s i j h1 (by omega)
    · omega
theorem pos_at (d : α) (l : List α) (s : α) : ∀ i, 0 < pos lt d l s i → lt s (l.getD (pos lt d l s i - 1) d) = false
  | 0, h => by simp [pos] at h
  | i + 1, h => by
    unfold pos at h ⊢
    split
    · rename_i hs
      rw [if_pos hs] at h
      exact pos_at d l s i h
    · rename_i hs
      simpa using hs
theorem put_perm (d : α) (l : List α) (s : α) : (put lt d l s).Perm (s :: l) := by
  unfold put
  refine List.perm_middle.trans ?_
  rw [List.take_append_drop]
theorem put_mem (d : α) (l : List α) (s z : α) : z ∈ put lt d l s ↔ z = s ∨ z ∈ l := by
  rw [(put_perm d l s).mem_iff]; simp
theorem put_length (d : α) (l : List α) (s : α) : (put lt d l s).length = l.length + 1 := by
  rw [(put_perm d l s).length_eq]; simp

theorem getD_mem_lt {l : List α} {j : Nat} (d : α) (h : j < l.length) : l.getD j d ∈ l := by
  simp [h]
theorem weak_getD (h : SWO lt) {l : List α} (hl : Weak lt l) (d : α) {i j : Nat} (hij : i ≤ j) (hj : j < l.length) : lt (l.getD j d) (l.getD i d) = false := by
  by_cases e : i = j
  · subst e; exact h.irrefl _
  · have := List.pairwise_iff_getElem.1 hl i j (by omega) hj (by omega)
    simpa [hj, show i < l.length by omega] using this
theorem inc_getD {l : List α} (hl : Inc lt l) (d : α) {i j : Nat} (hij : i < j) (hj : j < l.length) : lt (l.getD i d) (l.getD j d) = true := by
  have := List.pairwise_iff_getElem.1 hl i j (by omega) hj (by omega)
  simpa [hj, show i < l.length by omega] using this
theorem put_weak (h : SWO lt) (d : α) {l : List α} (hl : Weak lt l) (s : α) : Weak lt (put lt d l s) := by
  unfold put Weak
  have hle := pos_le (lt := lt) d l s l.length
  have hA := pos_above (lt := lt) d l s l.length
  have hB := pos_at (lt := lt) d l s l.length
  generalize pos lt d l s l.length = p at *
  have hl' : Weak lt (l.take p ++ l.drop p) := by rw [List.take_append_drop]; exact hl
  have h3 := List.pairwise_append.1 hl'
  refine List.pairwise_append.2 ⟨h3.1, List.pairwise_cons.2 ⟨?_, h3.2.1⟩, ?_⟩
  · intro b hb
    obtain ⟨j, hj, rfl⟩ := List.getElem_of_mem hb
    rw [List.length_drop] at hj
    have := hA (p + j) (by omega) (by omega)
    simp [show p + j < l.length by omega] at this
    simpa using asym h this
  · intro a ha b hb
    rcases List.mem_cons.1 hb with rfl | hb
    · obtain ⟨j, hj, rfl⟩ := List.getElem_of_mem ha
      rw [List.length_take] at hj
      have h1 := hB (by omega)
      have h2 := weak_getD h hl d (i := j) (j := p - 1) (by omega) (by omega)
      have := h.ntrans _ _ _ h1 h2
      simpa [show j < l.length by omega] using this
    · exact h3.2.2 a ha b hb
theorem put_inc (h : SWO lt) (ht : Tri lt) (d : α) {l : List α} (hl : Inc lt l) {s : α} (hs : s ∉ l) : Inc lt (put lt d l s) :=
  weak_inc ht (put_weak h d (inc_weak h hl) s) ((put_perm d l s).nodup_iff.2 (List.nodup_cons.2 ⟨hs, inc_nodup h hl⟩))

def isort (lt : α → α → Bool) (d : α) (l : List α) : List α := l.foldl (put lt d) []
theorem fold_perm (d : α) : ∀ (l o : List α), (l.foldl (put lt d) o).Perm (o ++ l)
  | [], o => by simp
  | x :: r, o => by
    simp only [List.foldl_cons]
    refine (fold_perm d r _).trans ?_
    refine ((put_perm d o x).append_right r).trans ?_
    exact List.perm_middle.symm
theorem isort_perm (d : α) (l : List α) : (isort lt d l).Perm l := by
  have := fold_perm (lt := lt) d l []
  rwa [List.nil_append] at this
theorem fold_weak (h : SWO lt) (d : α) : ∀ (l o : List α), Weak lt o → Weak lt (l.foldl (put lt d) o)
  | [], o, ho => ho
  | x :: r, o, ho => fold_weak h d r _ (put_weak h d ho x)
theorem isort_weak (h : SWO lt) (d : α) (l : List α) : Weak lt (isort lt d l) := fold_weak h d l [] List.Pairwise.nil
theorem isort_snoc (d : α) (l : List α) (x : α) : isort lt d (l ++ [x]) = put lt d (isort lt d l) x := by simp [isort]
theorem isort_length (d : α) (l : List α) : (isort lt d l).length = l.length := (isort_perm d l).length_eq
theorem isort_congr (h : SWO lt) (ht : Tri lt) (d : α) {l1 l2 : List α} (hp : l1.Perm l2) : isort lt d l1 = isort lt d l2 :=
  weak_perm h ht (isort_weak h d l1) (isort_weak h d l2) ((isort_perm d l1).trans (hp.trans (isort_perm d l2).symm))
theorem isort_inc (h : SWO lt) (d : α) {l : List α} (hl : Inc lt l) (ht : Tri lt) : isort lt d l = l :=
  weak_perm h ht (isort_weak h d l) (inc_weak h hl) (isort_perm d l)
theorem isort_rising (h : SWO lt) (ht : Tri lt) (d : α) (l : List α) : rising lt (isort lt d l) = true ↔ l.Nodup := by
  rw [rising_iff h]
  constructor
  · intro hi; exact (isort_perm d l).nodup_iff.1 (inc_nodup h hi)
  · intro hn; exact weak_inc ht (isort_weak h d l) ((isort_perm d l).nodup_iff.2 hn)

end Orl
end Go.Proofs.YtjkljljmjjnneaaGreatDoor
namespace Go.Proofs.YtjkljljmjjnneaaGreatDoor
open Go.RowKit
set_option linter.unusedVariables false
set_option linter.unusedSimpArgs false

/-- all blocks that were there, but those of S, are as they were -/
structure Keeps (S : Nat → Prop) (w w' : World) : Prop where
  os : w'.os = w.os
  tape : w'.tape = w.tape
  output : w'.output = w.output
  size : w.heap.size ≤ w'.heap.size
  block : ∀ k, k < w.heap.size → ¬ S k → w'.heap[k]? = w.heap[k]?

def no : Nat → Prop := fun _ => False

theorem Keeps.refl (S : Nat → Prop) (w : World) : Keeps S w w := ⟨rfl, rfl, rfl, Nat.le_refl _, fun _ _ _ => rfl⟩
theorem Keeps.trans {S : Nat → Prop} {a b c : World} (h : Keeps S a b) (k : Keeps S b c) : Keeps S a c :=
  ⟨k.os.trans h.os, k.tape.trans h.tape, k.output.trans h.output, Nat.le_trans h.size k.size, fun i hi hn => (k.block i (Nat.lt_of_lt_of_le hi h.size) hn).trans (h.block i hi hn)⟩
/-- the second step may touch what was not there ahead of the first -/
theorem Keeps.then {S T : Nat → Prop} {a b c : World} (h : Keeps S a b) (k : Keeps T b c) (hT : ∀ i, T i → S i ∨ a.heap.size ≤ i) : Keeps S a c :=
  ⟨k.os.trans h.os, k.tape.trans h.tape, k.output.trans h.output, Nat.le_trans h.size k.size, fun i hi hn => (k.block i (Nat.lt_of_lt_of_le hi h.size) (fun ht => by rcases hT i ht with h' | h'; exact hn h'; omega)).trans (h.block i hi hn)⟩
theorem Keeps.mono {S T : Nat → Prop} {a b : World} (h : Keeps S a b) (hS : ∀ i, S i → T i) : Keeps T a b :=
  ⟨h.os, h.tape, h.output, h.size, fun i hi hn => h.block i hi (fun hs => hn (hS i hs))⟩
theorem Keeps.of_no {T : Nat → Prop} {a b : World} (h : Keeps no a b) : Keeps T a b := h.mono fun _ h => h.elim
theorem Keeps.alloc {S : Nat → Prop} {a w : World} (h : Keeps S a w) (o : Obj) : Keeps S a (w.alloc o) :=
  ⟨h.os, h.tape, h.output, Nat.le_trans h.size (by simp), fun i hi hn => (Below.heap_alloc w o i (Nat.lt_of_lt_of_le hi h.size)).trans (h.block i hi hn)⟩
theorem Keeps.drew {S : Nat → Prop} {a w : World} (h : Keeps S a w) : Keeps S a w.drew := ⟨h.os, h.tape, h.output, h.size, h.block⟩
theorem Keeps.drewN {S : Nat → Prop} {a w : World} (h : Keeps S a w) (m : Nat) : Keeps S a (w.drewN m) := ⟨h.os, h.tape, h.output, h.size, h.block⟩
theorem Keeps.setCell {S : Nat → Prop} {a w : World} (h : Keeps S a w) {p : Addr} (hp : S p.block ∨ a.heap.size ≤ p.block) (u : Value) : Keeps S a (w.setCell p u) :=
  ⟨h.os, h.tape, h.output, by rw [World.size_setCell]; exact h.size, fun i hi hn => (Below.heap_setCell w p u i (fun e => by rcases hp with h' | h'; exact hn (e ▸ h'); omega)).trans (h.block i hi hn)⟩
theorem Keeps.grown {S : Nat → Prop} {a w w' : World} {row : Option Nat} (h : Keeps S a w) (hg : w.grownBy w' row) (hr : ∀ k, row = some k → S k ∨ a.heap.size ≤ k) : Keeps S a w' :=
  ⟨hg.os.trans h.os, hg.tape.trans h.tape, hg.output.trans h.output, Nat.le_trans h.size hg.size, fun i hi hn =>
    (hg.block i (Nat.lt_of_lt_of_le hi h.size) (fun e => by rcases hr i e.symm with h' | h'; exact hn h'; omega)).trans (h.block i hi hn)⟩
theorem Keeps.below {S : Nat → Prop} {w w' : World} (h : Keeps S w w') {B : Nat} (hB : B ≤ w.heap.size) (hS : ∀ i, S i → B ≤ i) : Below B w w' :=
  ⟨h.os, h.tape, h.output, h.size, fun k hk => h.block k (by omega) (fun hs => by have := hS k hs; omega)⟩
theorem Keeps.of_below {w w' : World} (h : Below w.heap.size w w') : Keeps no w w' := ⟨h.os, h.tape, h.output, h.size, fun k hk _ => h.block k hk⟩
theorem Keeps.cell {S : Nat → Prop} {w w' : World} (h : Keeps S w w') {p : Addr} {v : Value} (hc : w.cell? p = some v) (hp : ¬ S p.block) : w'.cell? p = some v :=
  (World.cell?_of_block (h.block p.block (World.block_lt_of_cell? w p hc) hp)).trans hc
theorem Keeps.cellN {w w' : World} (h : Keeps no w w') {p : Addr} {v : Value} (hc : w.cell? p = some v) : w'.cell? p = some v := h.cell hc id

theorem lt_of_block {w : World} {k : Nat} {o : Obj} (h : w.heap[k]? = some o) : k < w.heap.size := by
  rcases Nat.lt_or_ge k w.heap.size with h' | h'
  · exact h'
  · rw [Array.getElem?_eq_none h'] at h; cases h
theorem Keeps.at {S : Nat → Prop} {w w' : World} (h : Keeps S w w') {k : Nat} {o : Obj} (hk : w.heap[k]? = some o) (hp : ¬ S k) : w'.heap[k]? = some o :=
  (h.block k (lt_of_block hk) hp).trans hk

def inO (o : Option Addr) : Nat → Prop := fun k => ∃ x, o = some x ∧ x.block = k
theorem own_blk (o : Option Addr) (n c k : Nat) : Value.ownBlock (.slice o n c) = some k ↔ inO o k := by
  cases o with
  | none => constructor
            · intro h; cases h
            · rintro ⟨x, h, _⟩; cases h
  | some x => constructor
              · intro h; exact ⟨x, rfl, by simpa [Value.ownBlock] using h⟩
              · rintro ⟨y, h, rfl⟩; cases h; rfl

theorem ownsRow_keeps {S : Nat → Prop} {w w' : World} {base : Nat} {e : TypeId} {size : Nat} {v : Value} {n : Nat} {xs : List Value} (h : w.ownsRow base e size v n xs) (hk : Keeps S w w') (hv : ∀ k, v.ownBlock = some k → ¬ S k) : w'.ownsRow base e size v n xs := by
  obtain ⟨h1, h2⟩ := h
  refine ⟨h1, ?_⟩
  rcases h2 with h | ⟨g', cap', cur, rfl, hbg, hh, hrest⟩
  · exact .inl h
  · exact .inr ⟨g', cap', cur, rfl, hbg, hk.at hh (hv g' rfl), hrest⟩

theorem cell_of_blk {w : World} {a : Nat} {cur : Array Value} {t : TypeId} {fz : Nat × Nat} (h : w.heap[a]? = some (.cells cur t fz)) (i : Nat) : w.cell? ⟨a, i, none⟩ = cur[i]? := by
  simp [World.cell?, h]
theorem frozen_of_blk {w : World} {a : Nat} {cur : Array Value} {t : TypeId} (h : w.heap[a]? = some (.cells cur t (0, 0))) (i : Nat) : w.frozen? ⟨a, i, none⟩ = false := by
  simp [World.frozen?, h]
theorem blk_set {w : World} {a : Nat} {cur : Array Value} {t : TypeId} {fz : Nat × Nat} (h : w.heap[a]? = some (.cells cur t fz)) (i : Nat) (u : Value) : (w.setCell ⟨a, i, none⟩ u).heap[a]? = some (.cells (cur.setIfInBounds i u) t fz) := by
  simp [World.setCell, Array.getElem?_modify, h]
theorem blk_set_ne {w : World} {a : Nat} {o : Obj} (h : w.heap[a]? = some o) {p : Addr} (hp : a ≠ p.block) (u : Value) : (w.setCell p u).heap[a]? = some o := (Below.heap_setCell w p u a hp).trans h
theorem blk_alloc {w : World} {a : Nat} {o : Obj} (h : w.heap[a]? = some o) (o' : Obj) : (w.alloc o').heap[a]? = some o := (Below.heap_alloc w o' a (lt_of_block h)).trans h
theorem blk_new (w : World) (o : Obj) : (w.alloc o).heap[w.heap.size]? = some o := by
  show (w.heap.push _)[w.heap.size]? = _
  simp
theorem addr_add (b off j : Nat) : Addr.add ⟨b, off, none⟩ j = ⟨b, off + j, none⟩ := by
  unfold Addr.add
  split
  · rename_i h
    have : j = 0 := by simpa using h
    subst this; rfl
  · rfl

/-! ### elements of a kind, rows of them, slices of the call's own -/
structure El (α : Type) where
  e : TypeId
  t : TypeId
  k : Nat
  nb : Nat
  enc : α → List Value
structure El.Ok {α : Type} (E : El α) : Prop where
  len : ∀ x, (E.enc x).length = E.k
  one : ∀ x, ∀ u ∈ E.enc x, u.oneCell' = true
  pos : 0 < E.k
  und : Tryz.prog.underlying E.t = some (.slice E.e)
  inf : ∃ i z, Tryz.prog.info? E.e = some i ∧ i.zero = some z ∧ i.size = E.k ∧ i.bytes = E.nb ∧ z.cells.size = E.k
variable {α : Type} {E : El α}
def El.cells (E : El α) (xs : List α) : List Value := xs.flatMap E.enc
theorem cells_append (xs ys : List α) : E.cells (xs ++ ys) = E.cells xs ++ E.cells ys := by simp [El.cells]
theorem cells_length (h : E.Ok) : ∀ xs : List α, (E.cells xs).length = xs.length * E.k
  | [] => by simp [El.cells]
  | x :: r => by
    have := cells_length h r
    simp only [El.cells, List.flatMap_cons, List.length_append, List.length_cons] at this ⊢
    rw [this, h.len, Nat.add_mul]; omega
theorem cells_one (h : E.Ok) (xs : List α) : ∀ u ∈ E.cells xs, u.oneCell' = true := by
  intro u hu
  simp [El.cells] at hu
  obtain ⟨x, _, hx⟩ := hu
  exact h.one x u hx
theorem cells_at (h : E.Ok) (d : α) : ∀ (xs : List α) (j i : Nat), j < xs.length → i < E.k → (E.cells xs)[j * E.k + i]? = (E.enc (xs.getD j d))[i]?
  | [], j, i, hj, _ => by simp at hj
  | x :: r, 0, i, _, hi => by
    simp only [El.cells, List.flatMap_cons]
    rw [List.getElem?_append_left (by rw [h.len]; omega)]
    simp
  | x :: r, j + 1, i, hj, hi => by
    have := cells_at h d r j i (by simpa using hj) hi
    simp only [El.cells, List.flatMap_cons] at this ⊢
    rw [List.getElem?_append_right (by rw [h.len, Nat.add_mul]; omega), h.len, show (j + 1) * E.k + i - E.k = j * E.k + i by rw [Nat.add_mul]; omega, this]
    simp

/-- what a slice's address shows: these elements -/
def Row (E : El α) (w : World) (a : Option Addr) (xs : List α) : Prop :=
  xs = [] ∨ ∃ b off, a = some ⟨b, off, none⟩ ∧ ∀ j u, (E.cells xs)[j]? = some u → w.cell? ⟨b, off + j, none⟩ = some u
theorem row_nil (w : World) (a : Option Addr) : Row E w a [] := .inl rfl
theorem Row.keeps {S : Nat → Prop} {w w' : World} {a : Option Addr} {xs : List α} (h : Row E w a xs) (hk : Keeps S w w') (ha : ∀ k, inO a k → ¬ S k) : Row E w' a xs := by
  rcases h with h | ⟨b, off, rfl, hc⟩
  · exact .inl h
  · exact .inr ⟨b, off, rfl, fun j u hj => hk.cell (hc j u hj) (ha b ⟨_, rfl, rfl⟩)⟩
theorem Row.keepsN {w w' : World} {a : Option Addr} {xs : List α} (h : Row E w a xs) (hk : Keeps no w w') : Row E w' a xs := h.keeps hk (fun _ _ => id)
theorem Row.take (h : E.Ok) {w : World} {a : Option Addr} {xs : List α} (hr : Row E w a xs) (n : Nat) : Row E w a (xs.take n) := by
  rcases hr with e | ⟨b, off, rfl, hc⟩
  · exact .inl (by rw [e]; simp)
  · refine .inr ⟨b, off, rfl, fun j u hj => hc j u ?_⟩
    have e : E.cells xs = E.cells (xs.take n) ++ E.cells (xs.drop n) := by rw [← cells_append, List.take_append_drop]
    rw [e, List.getElem?_append_left ((List.getElem?_eq_some_iff.1 hj).1)]
    exact hj
theorem Row.drop (h : E.Ok) {w : World} {a a' : Option Addr} {xs : List α} (hr : Row E w a xs) (n : Nat) (hadr : n < xs.length → ∀ b off, a = some ⟨b, off, none⟩ → a' = some ⟨b, off + n * E.k, none⟩) : Row E w a' (xs.drop n) := by
  by_cases hn : n < xs.length
  · rcases hr with e | ⟨b, off, rfl, hc⟩
    · rw [e] at hn; simp at hn
    · refine .inr ⟨b, off + n * E.k, hadr hn b off rfl, fun j u hj => ?_⟩
      have e : E.cells xs = E.cells (xs.take n) ++ E.cells (xs.drop n) := by rw [← cells_append, List.take_append_drop]
      have hl : (E.cells (xs.take n)).length = n * E.k := by rw [cells_length h, List.length_take, Nat.min_eq_left (by omega)]
      have := hc (n * E.k + j) u (by rw [e, List.getElem?_append_right (by omega), hl, Nat.add_sub_cancel_left]; exact hj)
      rwa [← Nat.add_assoc] at this
  · exact .inl (List.drop_eq_nil_of_le (by omega))
theorem Row.news {w : World} {ad : Addr} {xs : List α} (h : Row E w (some ad) xs) : ∀ j u, (E.cells xs)[j]? = some u → w.cell? (ad.add j) = some u := by
  intro j u hj
  rcases h with h | ⟨b, off, h, hc⟩
  · subst h; simp [El.cells] at hj
  · cases h
    rw [addr_add]
    exact hc j u hj

/-- a slice that the call itself made: these elements -/
def Own (E : El α) (w : World) (o : Option Addr) (c : Nat) (xs : List α) : Prop := w.ownsRow 0 E.e E.k (.slice o xs.length c) xs.length (E.cells xs)
theorem Own.keeps {S : Nat → Prop} {w w' : World} {o : Option Addr} {c : Nat} {xs : List α} (h : Own E w o c xs) (hk : Keeps S w w') (hv : ∀ k, inO o k → ¬ S k) : Own E w' o c xs :=
  ownsRow_keeps h hk (fun k hh => hv k ((own_blk _ _ _ _).1 hh))
theorem Own.keepsN {w w' : World} {o : Option Addr} {c : Nat} {xs : List α} (h : Own E w o c xs) (hk : Keeps no w w') : Own E w' o c xs := h.keeps hk (fun _ _ => id)
theorem Own.shape {w : World} {o : Option Addr} {c : Nat} {xs : List α} (h : Own E w o c xs) : (o = none ∧ c = 0 ∧ xs = []) ∨ ∃ g cur, o = some ⟨g, 0, none⟩ ∧ w.heap[g]? = some (.cells cur E.e (0, 0)) ∧ xs.length ≤ c ∧ c ≤ maxLen ∧ cur.size = c * E.k ∧ cur.toList.take (xs.length * E.k) = E.cells xs := by
  rcases h.2 with ⟨e, h0⟩ | ⟨g, cap, cur, e, _, h1, h2, h3, h4, h5⟩
  · injection e with e1 e2 e3
    exact .inl ⟨e1, e3, List.length_eq_zero_iff.mp h0⟩
  · injection e with e1 e2 e3
    subst e3
    exact .inr ⟨g, cur, e1, h1, h2, h3, h4, h5⟩
theorem own_of_shape (h : E.Ok) {w : World} {g c : Nat} {cur : Array Value} {xs : List α} (h1 : w.heap[g]? = some (.cells cur E.e (0, 0))) (h2 : xs.length ≤ c) (h3 : c ≤ maxLen) (h4 : cur.size = c * E.k) (h5 : cur.toList.take (xs.length * E.k) = E.cells xs) : Own E w (some ⟨g, 0, none⟩) c xs :=
  ⟨by rw [cells_length h], .inr ⟨g, c, cur, rfl, Nat.zero_le _, h1, h2, h3, h4, h5⟩⟩
theorem Own.lt {w : World} {o : Option Addr} {c : Nat} {xs : List α} (h : Own E w o c xs) : ∀ k, inO o k → k < w.heap.size := by
  rintro k ⟨x, rfl, rfl⟩
  exact (World.ownsRow.lt h x.block rfl).2
theorem Own.row {w : World} {o : Option Addr} {c : Nat} {xs : List α} (h : Own E w o c xs) : Row E w o xs := by
  rcases h.shape with ⟨_, _, e⟩ | ⟨g, cur, rfl, hg, _, _, _, ht⟩
  · exact .inl e
  · refine .inr ⟨g, 0, rfl, fun j u hj => ?_⟩
    rw [Nat.zero_add, cell_of_blk hg, ← Array.getElem?_toList]
    rw [← ht] at hj
    rw [List.getElem?_take] at hj
    split at hj
    · exact hj
    · cases hj
theorem own_nil (w : World) : Own E w none 0 [] := World.ownsRow_nil w 0 E.e E.k
theorem own_val {w : World} {v : Value} {n : Nat} {xs : List α} (hE : E.Ok) (h : w.ownsRow 0 E.e E.k v n (E.cells xs)) : ∃ o c, v = .slice o n c ∧ n = xs.length ∧ Own E w o c xs := by
  have hn : n = xs.length := by
    have := h.1; rw [cells_length hE] at this
    exact (Nat.eq_of_mul_eq_mul_right hE.pos this).symm
  rcases h.2 with ⟨e, h0⟩ | ⟨g, cap, cur, e, _⟩
  · refine ⟨none, 0, by rw [e, h0], hn, ?_⟩
    unfold Own
    rw [← hn, h0]
    rw [e, h0] at h
    exact h
  · refine ⟨_, _, e, hn, ?_⟩
    unfold Own
    rw [← hn, ← e]
    exact h
theorem Own.cap {w : World} {o : Option Addr} {c : Nat} {xs : List α} (h : Own E w o c xs) : xs.length ≤ c ∧ (o = none → c = 0) := by
  rcases h.shape with ⟨e, h0, h1⟩ | ⟨g, cur, e, _, h1, _⟩
  · subst h1; exact ⟨by simp, fun _ => h0⟩
  · exact ⟨h1, fun h => by rw [e] at h; cases h⟩

/-- where an append's slice lies: in the old block, or in a new one (and the old one is let alone) -/
def Ap (w : World) (oa o' : Option Addr) (w' : World) : Prop := (o' = oa ∧ Keeps (inO oa) w w') ∨ ((∃ g, o' = some ⟨g, 0, none⟩ ∧ w.heap.size ≤ g) ∧ Keeps no w w')
/-- a slice (nil or a new block) that was not there ahead -/
def New (w : World) (o : Option Addr) : Prop := ∀ k, inO o k → w.heap.size ≤ k
theorem new_none (w : World) : New w none := by rintro k ⟨x, h, _⟩; cases h
theorem New.of_le {w w' : World} {o : Option Addr} (h : New w' o) (hl : w.heap.size ≤ w'.heap.size) : New w o := fun k hk => Nat.le_trans hl (h k hk)
theorem Ap.new {w0 w w' : World} {oa o' : Option Addr} (h : Ap w oa o' w') (hn : New w0 oa) (hk : Keeps no w0 w) : New w0 o' ∧ Keeps no w0 w' := by
  rcases h with ⟨rfl, h⟩ | ⟨⟨g, rfl, hg⟩, h⟩
  · exact ⟨hn, hk.then h (fun i hi => .inr (hn i hi))⟩
  · refine ⟨?_, hk.trans h⟩
    rintro k ⟨x, e, rfl⟩
    cases e
    exact Nat.le_trans hk.size hg

theorem run_app (hE : E.Ok) (w : World) (ty : TypeId) (oa : Option Addr) (c : Nat) (xs : List α) (hown : Own E w oa c xs) (ox : Option Addr) (d : Nat) (news : List α) (hd : ox = none → d = 0) (hrow : Row E w ox news)
    (hb : (xs.length + news.length) * E.nb ≤ 140737488355328) (hb2 : xs.length + news.length ≤ 140737488355328) :
    ∃ o' c' w', (Builtin.append_ #[E.t, E.t] ty #[.slice oa xs.length c, .slice ox news.length d]).run Tryz.prog w = .ok (.slice o' (xs.length + news.length) c') w' ∧ Own E w' o' c' (xs ++ news) ∧ Ap w oa o' w' := by
  obtain ⟨i0, z, hi, hz0, hz1, hz2, hz3⟩ := hE.inf
  have hmx : xs.length + news.length ≤ maxLen := by unfold maxLen; omega
  match ox with
  | none =>
    obtain rfl : news = [] := by rcases hrow with h | ⟨b, off, h, _⟩; exact h; cases h
    obtain rfl : d = 0 := hd rfl
    refine ⟨oa, c, w, ?_, by simpa using hown, .inl ⟨rfl, Keeps.refl _ _⟩⟩
    exact run_append_owned_none (P := Tryz.prog) (w := w) 0 E.t ty E.e i0 E.k hE.und hi _ _ _ hown
  | some ad =>
    obtain ⟨v', w', hr, h2, h3, _, hat⟩ := run_append_own_at (P := Tryz.prog) w 0 E.t ty E.e i0 z E.k E.nb hE.und hi hz0 hz1 hz2 hz3 hE.pos _ _ _ hown ad news.length d (E.cells news) (by rw [cells_length hE]) hrow.news (cells_one hE news) hmx hb (Nat.zero_le _)
    rw [← cells_append] at h2
    obtain ⟨o', c', rfl, hlen, hown''⟩ := own_val hE h2
    refine ⟨o', c', w', hr, hown'', ?_⟩
    have hk : Keeps (inO oa) w w' := (Keeps.refl _ _).grown h3 (fun k hk => .inl ((own_blk _ _ _ _).1 hk))
    rcases hown.shape with ⟨rfl, rfl, rfl⟩ | ⟨g, cur, rfl, hg, hnc, hcm, hcs, htake⟩
    · have hk0 : Keeps no w w' := hk.mono (fun i ⟨x, h, _⟩ => by cases h)
      rcases hown''.shape with ⟨e, _⟩ | ⟨g', cur', e, _⟩
      · exact .inl ⟨e, hk⟩
      · subst e
        rcases hat with hat | hat
        · cases hat
        · simp [Value.ownBlock] at hat
          exact .inr ⟨⟨g', rfl, by omega⟩, hk0⟩
    · by_cases hroom : xs.length + news.length ≤ c
      · have hr2 := run_append_room (P := Tryz.prog) w E.t ty E.e i0 hE.und hi g xs.length c cur hg ad news.length d (E.cells news) (by rw [hz1, cells_length hE]) hrow.news (cells_one hE news) hroom (by rw [hz1, cells_length hE, hcs, ← Nat.add_mul]; exact Nat.mul_le_mul_right _ hroom)
        have := hr.symm.trans hr2
        injection this with e1 _
        injection e1 with e1 _ _
        exact .inl ⟨e1, hk⟩
      · have hr2 := run_append_grow (P := Tryz.prog) w E.t ty E.e i0 z hE.und hi hz0 ⟨g, 0, none⟩ xs.length c (E.cells xs) (by rw [hz1, cells_length hE]) (hown.cells (g := g) rfl) ad news.length d (E.cells news) (by rw [hz1, cells_length hE]) hrow.news (by omega) (by omega) (by rw [hz2]; exact growslice_fits (by omega) hb)
        have := hr.symm.trans hr2
        injection this with e1 e2
        injection e1 with e1 _ _
        refine .inr ⟨⟨_, e1, Nat.le_refl _⟩, ?_⟩
        rw [e2]
        exact ((Keeps.refl _ w).drew).alloc _

/-- append(s, x...) onto a slice of the call's own -/
theorem wpList_app (hE : E.Ok) {w : World} {ops : Array Oper} {rest : List Oper} {o : Oper} {a : Act} {Q : Exit → Act → World → Prop} (hgd : o.guard = none) (s x : Operand)
    (ho : o.op = .call { callee := .builtin .append, args := #[s, x], argTypes := #[E.t, E.t] })
    (oa : Option Addr) (n c : Nat) (xs : List α) (hs : a.eval s = .slice oa n c) (hn : n = xs.length) (hown : Own E w oa c xs)
    (ox : Option Addr) (m d : Nat) (news : List α) (hx : a.eval x = .slice ox m d) (hm : m = news.length) (hd : ox = none → d = 0) (hrow : Row E w ox news)
    (hb : (xs.length + news.length) * E.nb ≤ 140737488355328) (hb2 : xs.length + news.length ≤ 140737488355328)
    (h : ∀ o' c' w', Own E w' o' c' (xs ++ news) → Ap w oa o' w' → wpList Tryz.prog ops Q rest (a.put o.dst (.slice o' (n + m) c')) w') : wpList Tryz.prog ops Q (o :: rest) a w := by
  subst hn hm
  obtain ⟨o', c', w', hr, h1, h2⟩ := run_app hE w o.type oa c xs hown ox d news hd hrow hb hb2
  refine wpList_plain hgd fun K hK => ?_
  unfold Oper.wp execOp
  simp only [ho, resolve, invoke, builtin, Sem.run_bind, Sem.run_pure, Result.andThen_ok, List.map_toArray, List.map_cons, List.map_nil, hs, hx, hr]
  exact hK _ _ (h o' c' w' h1 h2)
end Go.Proofs.YtjkljljmjjnneaaGreatDoor
namespace Go.Proofs.YtjkljljmjjnneaaGreatDoor
open Go.RowKit Go.Sort Orl
set_option linter.unusedVariables false
set_option linter.unusedSimpArgs false

abbrev Tx := ByteArray
def e0 : Tx := ⟨#[]⟩
def TE : El Tx := ⟨9, 31, 1, 16, fun s => [.string s]⟩
theorem info9 : (Tryz.prog.info? 9).map (fun i => (i.zero, i.size, i.bytes)) = some (some (.string ⟨#[]⟩), 1, 16) := by kernel_rfl
theorem okT : TE.Ok := by
  obtain ⟨i0, hi, hz0, hz1, hz2⟩ := info_parts info9
  exact ⟨fun _ => rfl, fun x u hu => by simp [TE] at hu; subst hu; rfl, by decide, Tryz.underlying31, i0, _, hi, hz0, hz1, hz2, rfl⟩
/-! ### the order of bytes -/
def lts (x y : Tx) : Bool := Op.bytesLess x.toList y.toList
theorem lts_eq (x y : Tx) : lts x y = decide (x.data.toList < y.data.toList) := by
  unfold lts; rw [bytesLess_eq, Lib.toList_data, Lib.toList_data]
theorem tx_ext {x y : Tx} (h : x.data.toList = y.data.toList) : x = y := by
  cases x; cases y; exact congrArg ByteArray.mk (Array.toList_inj.1 h)
theorem tx_eq (x y : Tx) : (x.toList == y.toList) = decide (x = y) := by
  rw [Lib.toList_data, Lib.toList_data]
  by_cases h : x = y
  · subst h; simp
  · simp [h]; intro e; exact h (by cases x; cases y; simpa using e)
theorem swoT : SWO lts where
  irrefl x := by rw [lts_eq]; simp [List.lt_irrefl]
  trans x y z h1 h2 := by
    rw [lts_eq, decide_eq_true_eq] at *
    exact List.lt_trans h1 h2
  ntrans x y z h1 h2 := by
    rw [lts_eq, decide_eq_false_iff_not, List.not_lt] at *
    exact List.le_trans h2 h1
theorem triT : Tri lts := by
  intro x y h1 h2
  rw [lts_eq, decide_eq_false_iff_not, List.not_lt] at h1 h2
  exact tx_ext (List.le_antisymm h2 h1)

/-! ### slices as they are handed on -/
structure Sl {α : Type} (E : El α) (w : World) (a : Option Addr) (c : Nat) (xs : List α) : Prop where
  row : Row E w a xs
  cap : xs.length ≤ c
  nil : a = none → c = 0
variable {α : Type} {E : El α}
theorem Own.sl {w : World} {o : Option Addr} {c : Nat} {xs : List α} (h : Own E w o c xs) : Sl E w o c xs := ⟨h.row, h.cap.1, h.cap.2⟩
theorem Sl.keeps {S : Nat → Prop} {w w' : World} {a : Option Addr} {c : Nat} {xs : List α} (h : Sl E w a c xs) (hk : Keeps S w w') (ha : ∀ k, inO a k → ¬ S k) : Sl E w' a c xs := ⟨h.row.keeps hk ha, h.cap, h.nil⟩
theorem Sl.keepsN {w w' : World} {a : Option Addr} {c : Nat} {xs : List α} (h : Sl E w a c xs) (hk : Keeps no w w') : Sl E w' a c xs := ⟨h.row.keepsN hk, h.cap, h.nil⟩
theorem Sl.lt {w : World} {a : Option Addr} {c : Nat} {xs : List α} (h : Sl E w a c xs) (hx : E.Ok) (hn : xs ≠ []) : ∀ k, inO a k → k < w.heap.size := by
  rcases h.row with e | ⟨b, off, rfl, hc⟩
  · exact absurd e hn
  · rintro k ⟨x, e, rfl⟩
    cases e
    cases xs with
    | nil => exact absurd rfl hn
    | cons y r =>
      have hl : 0 < (E.cells (y :: r)).length := by rw [cells_length hx]; exact Nat.mul_pos (by simp) hx.pos
      have := hc 0 _ (List.getElem?_eq_getElem hl)
      exact World.block_lt_of_cell? w _ this
/-- the j-th text -/
theorem Sl.at {w : World} {a : Option Addr} {c : Nat} {xs : List Tx} (h : Sl TE w a c xs) {j : Nat} (hj : j < xs.length) : ∃ b off, a = some ⟨b, off, none⟩ ∧ w.cell? ⟨b, off + j, none⟩ = some (.string (xs.getD j e0)) := by
  rcases h.row with e | ⟨b, off, rfl, hc⟩
  · subst e; simp at hj
  · refine ⟨b, off, rfl, hc j _ ?_⟩
    have := cells_at okT e0 xs j 0 hj (by decide)
    simpa [TE] using this
/-- a call's slice: new, and nothing that was there has turned -/
def Gives {α : Type} (E : El α) (w : World) (xs : List α) (v : Value) (w' : World) : Prop := ∃ o n c, v = .slice o n c ∧ Hid (n = xs.length) ∧ Own E w' o c xs ∧ New w o ∧ Keeps no w w'

def Small {α : Type} (xs : List α) : Prop := xs.length ≤ 100000

theorem own_empty (hE : E.Ok) (w : World) : Own E (w.alloc (.cells #[] E.e)) (some ⟨w.heap.size, 0, none⟩) 0 [] := by
  refine own_of_shape hE (blk_new w _) (Nat.le_refl _) (by unfold maxLen; omega) (by simp) (by simp [El.cells])
theorem new_fresh (w : World) (i : Nat) (h : w.heap.size ≤ i) (off : Nat) : New w (some ⟨i, off, none⟩) := by
  rintro k ⟨x, e, rfl⟩; cases e; exact h

end Go.Proofs.YtjkljljmjjnneaaGreatDoor
