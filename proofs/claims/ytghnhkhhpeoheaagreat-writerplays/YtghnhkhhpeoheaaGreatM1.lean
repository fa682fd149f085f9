/- Which pairs may be written, and how they are dealt, in pure lists. -/
import Derived.Test.YtghnhkhhpeoheaaGreatM0
namespace Go.Proofs.YtghnhkhhpeoheaaGreat
open Go.RowKit Go.Sort Orl
set_option linter.unusedVariables false
set_option linter.unusedSimpArgs false

/-- FNV-1a -/
def fnvStep (h c : Nat) : Nat := (h ^^^ c) * 1099511628211 % 18446744073709551616
def fnv (h : Nat) (bs : List Nat) : Nat := bs.foldl fnvStep h
def nats (s : ByteArray) : List Nat := s.data.toList.map (·.toNat)
def hsh (s : Tx) : Nat := fnv 14695981039346656037 (nats s)
/-- a key's place among P -/
def pl (P : Nat) (s : Tx) : Nat := hsh s % P
theorem pl_lt {P : Nat} (s : Tx) (h : 0 < P) : pl P s < P := Nat.mod_lt _ h
def kys (l : List Pr) : List Tx := l.map Prod.fst
theorem kys_length (l : List Pr) : (kys l).length = l.length := by simp [kys]
def isT (l : List Tx) : List Tx := isort lts e0 l
def valK (l : List Tx) : Bool := decide (1 ≤ l.length ∧ l.length ≤ 1024) && (l.all fun k => decide (k.size ≤ 65535)) && rising lts (isT l)
def valP (l : List Pr) : Bool := (l.all fun p => decide (p.2.size ≤ 65535)) && valK (kys l)
theorem valP_iff (l : List Pr) : valP l = true ↔ (1 ≤ l.length ∧ l.length ≤ 1024) ∧ (∀ p ∈ l, p.1.size ≤ 65535 ∧ p.2.size ≤ 65535) ∧ (kys l).Nodup := by
  unfold valP valK isT
  simp only [Bool.and_eq_true, isort_rising swoT triT, List.all_eq_true, decide_eq_true_eq, kys_length]
  constructor
  · rintro ⟨h1, ⟨h2, h3⟩, h4⟩
    exact ⟨h2, fun p hp => ⟨h3 _ (List.mem_map.2 ⟨p, hp, rfl⟩), h1 p hp⟩, h4⟩
  · rintro ⟨h2, h3, h4⟩
    refine ⟨fun p hp => (h3 p hp).2, ⟨h2, fun k hk => ?_⟩, h4⟩
    obtain ⟨p, hp, rfl⟩ := List.mem_map.1 hk
    exact (h3 p hp).1
def ltp (p q : Pr) : Bool := lts p.1 q.1
def nrm (l : List Pr) : List Pr := isort ltp p0 l
theorem nrm_perm (l : List Pr) : (nrm l).Perm l := isort_perm p0 l
theorem nrm_length (l : List Pr) : (nrm l).length = l.length := isort_length p0 l
def ownOf {α : Type} (P : Nat) (key : α → Tx) (l : List α) (j : Nat) : List α := l.filter fun x => decide (pl P (key x) = j)
/-- of the first k partitions those that have some -/
def prt {α : Type} (P : Nat) (key : α → Tx) (l : List α) : Nat → List (Nat × List α)
  | 0 => []
  | k + 1 => prt P key l k ++ (if (ownOf P key l k).isEmpty = true then [] else [(k, ownOf P key l k)])
theorem prt_len {α : Type} (P : Nat) (key : α → Tx) (l : List α) : ∀ k, (prt P key l k).length ≤ k
  | 0 => Nat.le_refl _
  | k + 1 => by
    have := prt_len P key l k
    rw [prt, List.length_append]
    split <;> simp <;> omega
theorem prt_mem {α : Type} (P : Nat) (key : α → Tx) (l : List α) : ∀ k, ∀ p ∈ prt P key l k, p.1 < k ∧ p.2 = ownOf P key l p.1 ∧ p.2 ≠ []
  | 0, p, hp => by cases hp
  | k + 1, p, hp => by
    rw [prt] at hp
    rcases List.mem_append.1 hp with h | h
    · have := prt_mem P key l k p h
      exact ⟨by omega, this.2⟩
    · split at h
      · cases h
      · rename_i hne
        rcases List.mem_cons.1 h with rfl | h
        · exact ⟨by simp, rfl, fun e => hne (by simp only at e; rw [e]; rfl)⟩
        · cases h
theorem prt_has {α : Type} (P : Nat) (key : α → Tx) (l : List α) (j : Nat) (hj : ownOf P key l j ≠ []) : ∀ k, j < k → (j, ownOf P key l j) ∈ prt P key l k
  | 0, h => by omega
  | k + 1, h => by
    rw [prt]
    by_cases e : j = k
    · subst e
      refine List.mem_append_right _ ?_
      rw [if_neg (by simpa using hj)]
      simp
    · exact List.mem_append_left _ (prt_has P key l j hj k (by omega))
def grpS (l : List Pr) (P : Nat) : List Pp := prt P Prod.fst (nrm l) P
def startS (id : Nat) (l : List Pr) (P : Nat) : WS := newS id (grpS l P) (kys (nrm l))
theorem grp_pos {l : List Pr} {P : Nat} (hl : 1 ≤ l.length) (hP : 1 ≤ P) : 1 ≤ (grpS l P).length := by
  have h1 : 0 < (nrm l).length := by rw [nrm_length]; omega
  obtain ⟨x, hx⟩ : ∃ x, x ∈ nrm l := ⟨_, List.getElem_mem h1⟩
  have hne : ownOf P Prod.fst (nrm l) (pl P x.1) ≠ [] := by
    intro e
    have : x ∈ ownOf P Prod.fst (nrm l) (pl P x.1) := List.mem_filter.2 ⟨hx, by simp⟩
    rw [e] at this; cases this
  have := prt_has P Prod.fst (nrm l) _ hne P (pl_lt x.1 (by omega))
  exact List.length_pos_of_mem this
theorem start_wf {id : Nat} {l : List Pr} {P : Nat} (h1 : 65536 ≤ id) (h2 : id < 18446744073709551616) (hl : 1 ≤ l.length) (hl2 : l.length ≤ 1024) (hP : 1 ≤ P) (hP2 : P ≤ 64) : WfS (startS id l P) where
  lo := h1
  hi := h2
  pos := grp_pos hl hP
  most := Nat.le_trans (prt_len _ _ _ _) hP2
  part p hp := by
    have h := prt_mem P Prod.fst (nrm l) P p hp
    refine ⟨by omega, ?_⟩
    rw [h.2.1]
    refine Nat.le_trans (List.length_filter_le _ _) ?_
    rw [nrm_length]; exact hl2
  keys := by show (kys (nrm l)).length ≤ 1024; rw [kys_length, nrm_length]; exact hl2
  round := by show 0 ≤ 2; omega
  done h := absurd rfl h
  ended := by show 0 ≤ 4; omega
/-! ### pairs that may be: what the law mends -/
def cutT (s : Tx) : Tx := s.extract 0 200
def cutP (p : Pr) : Pr := (if 200 < p.1.size then p.1.extract 0 200 else p.1, if 200 < p.2.size then p.2.extract 0 200 else p.2)
def hasP (l : List Pr) (k : Tx) : Bool := l.any fun q => decide (q.1 = k)
def mendStep (out : List Pr) (p : Pr) : List Pr := if out.length < 40 ∧ hasP out (cutP p).1 = false then out ++ [cutP p] else out
def mendTo (l : List Pr) (i : Nat) : List Pr := (l.take i).foldl mendStep []
def pkv : Pr := (⟨#[107]⟩, ⟨#[118]⟩)
def mendP (l : List Pr) : List Pr := if (mendTo l l.length).isEmpty = true then [pkv] else mendTo l l.length
structure GoodP (l : List Pr) : Prop where
  len : l.length ≤ 40
  size : ∀ p ∈ l, p.1.size ≤ 200 ∧ p.2.size ≤ 200
  nodup : (kys l).Nodup
theorem cut_size (p : Pr) : (cutP p).1.size ≤ 200 ∧ (cutP p).2.size ≤ 200 := by
  unfold cutP
  simp only
  constructor
  · split
    · rw [ByteArray.size_extract]; omega
    · omega
  · split
    · rw [ByteArray.size_extract]; omega
    · omega
theorem hasP_iff (l : List Pr) (k : Tx) : hasP l k = true ↔ k ∈ kys l := by
  unfold hasP kys
  simp [List.any_eq_true]
theorem GoodP.step {out : List Pr} (h : GoodP out) (p : Pr) : GoodP (mendStep out p) := by
  unfold mendStep
  split
  · rename_i hc
    refine ⟨by simp; omega, ?_, ?_⟩
    · intro q hq
      rcases List.mem_append.1 hq with hq | hq
      · exact h.size q hq
      · rcases List.mem_cons.1 hq with rfl | hq
        · exact cut_size p
        · cases hq
    · unfold kys
      rw [List.map_append, List.nodup_append]
      refine ⟨h.nodup, by simp, ?_⟩
      intro a ha b hb
      simp at hb
      subst hb
      intro e
      subst e
      have := (hasP_iff out (cutP p).1).2 ha
      rw [hc.2] at this; cases this
  · exact h
theorem mendTo_good (l : List Pr) (i : Nat) : GoodP (mendTo l i) := by
  unfold mendTo
  have : ∀ (r out : List Pr), GoodP out → GoodP (r.foldl mendStep out) := by
    intro r
    induction r with
    | nil => intro out h; exact h
    | cons a r ih => intro out h; exact ih _ (h.step a)
  exact this _ [] ⟨by simp, fun p hp => (by cases hp), List.nodup_nil⟩
theorem mendP_good (l : List Pr) : GoodP (mendP l) ∧ 1 ≤ (mendP l).length := by
  unfold mendP
  split
  · refine ⟨⟨by simp, fun p hp => ?_, by simp [kys]⟩, by simp⟩
    rcases List.mem_cons.1 hp with rfl | hp
    · exact ⟨by decide, by decide⟩
    · cases hp
  · rename_i h
    refine ⟨mendTo_good l _, ?_⟩
    rw [List.isEmpty_iff] at h
    exact List.length_pos_iff.2 h
theorem GoodP.val {l : List Pr} (h : GoodP l) (h1 : 1 ≤ l.length) : valP l = true := (valP_iff l).2 ⟨⟨h1, by have := h.len; omega⟩, fun p hp => by have := h.size p hp; omega, h.nodup⟩
theorem mendTo_succ (l : List Pr) (i : Nat) (hi : i < l.length) : mendTo l (i + 1) = mendStep (mendTo l i) (l.getD i p0) := by
  unfold mendTo
  rw [take_succ_getD l i p0 hi, List.foldl_append]
  rfl
end Go.Proofs.YtghnhkhhpeoheaaGreat
