import Derived.Test.YtclheacjhkoocaaB2
namespace Go.Proofs.Ytclheacjhkoocaa
open Go.RowKit
open Pk
set_option linter.unusedVariables false
set_option linter.unusedSimpArgs false

/-- whose a block is -/
def Tag (B : Nat) (own : Nat → Nat) (i : Nat) (F : Nat → Prop) : Prop := ∀ k, F k → own k = i ∧ B ≤ k
def bump (own : Nat → Nat) (n i : Nat) : Nat → Nat := fun k => if k < n then own k else i
theorem Tag.apart {B : Nat} {own : Nat → Nat} {i j : Nat} {F G : Nat → Prop} (h : Tag B own i F) (h' : Tag B own j G) (hij : i ≠ j) : ∀ k, F k → ¬ G k := fun k hf hg => hij ((h k hf).1.symm.trans (h' k hg).1)
theorem Tag.bump {B : Nat} {own : Nat → Nat} {j : Nat} {G : Nat → Prop} (h : Tag B own j G) (n i : Nat) (hl : ∀ k, G k → k < n) : Tag B (bump own n i) j G := fun k hk => by
  refine ⟨?_, (h k hk).2⟩
  unfold Ytclheacjhkoocaa.bump
  rw [if_pos (hl k hk)]
  exact (h k hk).1
theorem tag_new {B : Nat} (own : Nat → Nat) (n i : Nat) {F : Nat → Prop} (hn : ∀ k, F k → n ≤ k) (hB : B ≤ n) : Tag B (bump own n i) i F := fun k hk => by
  have := hn k hk
  refine ⟨?_, by omega⟩
  unfold bump
  rw [if_neg (by omega)]
theorem Tag.step {B : Nat} {own : Nat → Nat} {i a : Nat} {o o' : Option Addr} {w : World} (h : Tag B own i (footW a o)) (hf : Fresh w o o') (hl : ∀ k, footW a o k → k < w.heap.size) (hB : B ≤ w.heap.size) : Tag B (Ytclheacjhkoocaa.bump own w.heap.size i) i (footW a o') := by
  intro k hk
  have key : footW a o k ∨ w.heap.size ≤ k := by
    rcases hk with rfl | hk
    · exact .inl (.inl rfl)
    · rcases hf.in k hk with h' | h'
      · exact .inl (.inr h')
      · exact .inr h'
  unfold Ytclheacjhkoocaa.bump
  rcases key with h' | h'
  · rw [if_pos (hl k h')]; exact h k h'
  · rw [if_neg (by omega)]; exact ⟨rfl, by omega⟩
theorem Tag.sub {B : Nat} {own : Nat → Nat} {i : Nat} {F G : Nat → Prop} (h : Tag B own i F) (hs : ∀ k, G k → F k) : Tag B own i G := fun k hk => h k (hs k hk)

/-- all that a script writes -/
def bytesOf : List OpV → List Nat
  | [] => []
  | p :: ps => p.news ++ bytesOf ps
theorem bytesOf_length (ps : List OpV) : (bytesOf ps).length = newsLen ps := by
  induction ps with
  | nil => rfl
  | cons p ps ih => simp [bytesOf, newsLen, ih]
theorem bytesOf_append (a b : List OpV) : bytesOf (a ++ b) = bytesOf a ++ bytesOf b := by
  induction a with
  | nil => rfl
  | cons p ps ih => simp [bytesOf, ih]
theorem bytesOf_snoc (ps : List OpV) (k : Nat) (h : k < ps.length) : bytesOf (ps.take (k + 1)) = bytesOf (ps.take k) ++ (ps.getD k op0).news := by
  rw [List.take_succ_eq_append_getElem h, bytesOf_append]
  simp [bytesOf, h]
theorem bytesOf_drop (ps : List OpV) (k : Nat) (h : k < ps.length) : bytesOf (ps.drop k) = (ps.getD k op0).news ++ bytesOf (ps.drop (k + 1)) := by
  rw [List.drop_eq_getElem_cons h]
  simp [bytesOf, h]
theorem wst_fits (L : Nat) (ps : List OpV) : ∀ bs : List Nat, bs.length + newsLen ps ≤ L → wst L (bs, 0) ps = (bs ++ bytesOf ps, 0) := by
  induction ps with
  | nil => intro bs _; simp [wst, bytesOf]
  | cons p ps ih =>
    intro bs h
    simp only [newsLen] at h
    have e := ih (bs ++ p.news) (by rw [List.length_append]; omega)
    unfold wst at e ⊢
    rw [List.foldl_cons, lay_fits _ _ _ (by omega), e]
    simp [bytesOf]
theorem wst_stuck (L : Nat) (ps : List OpV) (bs : List Nat) (e : Nat) (h : e ≠ 0) : wst L (bs, e) ps = (bs, e) := by
  induction ps with
  | nil => rfl
  | cons p ps ih =>
    unfold wst at ih ⊢
    rw [List.foldl_cons, lay_err _ _ _ _ h, ih]
theorem wst_over (L : Nat) (ps : List OpV) : ∀ bs : List Nat, bs.length ≤ L → L < bs.length + newsLen ps → (wst L (bs, 0) ps).2 = 3 := by
  induction ps with
  | nil => intro bs h1 h2; simp [newsLen] at h2; omega
  | cons p ps ih =>
    intro bs h1 h2
    simp only [newsLen] at h2
    by_cases hl : L < bs.length + p.news.length
    · have := wst_stuck L ps bs 3 (by omega)
      unfold wst at this ⊢
      rw [List.foldl_cons, lay_long _ _ _ hl, this]
    · have e := ih (bs ++ p.news) (by rw [List.length_append]; omega) (by rw [List.length_append]; omega)
      unfold wst at e ⊢
      rw [List.foldl_cons, lay_fits _ _ _ (by omega), e]

def bsts (st : RS) (ps : List OpV) : RS := ps.foldl (fun st p => p.bst st) st
theorem bsts_snoc (st : RS) (ps : List OpV) (k : Nat) (h : k < ps.length) : bsts st (ps.take (k + 1)) = (ps.getD k op0).bst (bsts st (ps.take k)) := by
  rw [List.take_succ_eq_append_getElem h]
  unfold bsts
  rw [List.foldl_append]
  simp [h]
theorem bsts_stuck (ps : List OpV) (bs : List Nat) (e : Nat) (h : e ≠ 0) : bsts (bs, e) ps = (bs, e) := by
  induction ps with
  | nil => rfl
  | cons p ps ih =>
    unfold bsts at ih ⊢
    rw [List.foldl_cons, bst_err _ _ _ h, ih]
theorem bsts_short (ps : List OpV) : ∀ j : Nat, (∀ p ∈ ps, p.small) → j < newsLen ps → (bsts ((bytesOf ps).take j, 0) ps).2 = 4 := by
  induction ps with
  | nil => intro j _ h; simp [newsLen] at h
  | cons p ps ih =>
    intro j hs hj
    simp only [newsLen] at hj
    have hp := hs p (List.mem_cons_self)
    by_cases hl : j < p.news.length
    · have h4 := bst_short p hp (bytesOf ps) j hl
      unfold bsts
      rw [List.foldl_cons]
      simp only [bytesOf]
      generalize p.bst ((p.news ++ bytesOf ps).take j, 0) = st at h4 ⊢
      obtain ⟨bs, e⟩ := st
      simp only at h4
      subst h4
      have := bsts_stuck ps bs 4 (by omega)
      unfold bsts at this
      rw [this]
    · have e := ih (j - p.news.length) (fun q hq => hs q (List.mem_cons_of_mem _ hq)) (by omega)
      unfold bsts at e ⊢
      rw [List.foldl_cons]
      simp only [bytesOf]
      rw [take_over _ _ _ (by omega), bst_full p hp]
      exact e

theorem rest_any (n : Int) (m : Nat) (w : World) (h1 : -9223372036854775808 ≤ n) (h2 : n ≤ 9223372036854775807) (hm : m ≤ 140737488355328) :
    Calls Try.prog 28 #[.int .i64 n, .int .i64 (m : Nat)] w fun e w' => (∃ r : Nat, r ≤ m ∧ e = .returned (.int .i64 (r : Nat))) ∧ w' = w := by
  have b1 := Int.tmod_lt_of_pos n (b := (m : Int) + 1) (by omega)
  have b2 : -((m : Int) + 1) < n.tmod ((m : Int) + 1) := by
    have := Int.lt_tmod_of_pos n (b := (m : Int) + 1) (by omega)
    omega
  have hw : wrap64 (n.tmod ((m : Int) + 1)) = n.tmod ((m : Int) + 1) := IntWalk.wrap64_in _ ⟨by omega, by omega⟩
  obtain ⟨t, ht⟩ : ∃ t, t = n.tmod ((m : Int) + 1) := ⟨_, rfl⟩
  rw [← ht] at b1 b2 hw
  have HT : Hid (t = n.tmod ((m : Int) + 1)) := ht
  have ht' := ht.symm
  clear ht
  by_cases hn : t < 0
  · go_enter Try.func28, Try.ntmps28
    go_wp2
    go_ret
    refine ⟨⟨(t + m + 1).toNat, by omega, ?_⟩, rfl⟩
    show Ending.returned (.int .i64 (t + m + 1)) = _
    congr 2
    omega
  · go_enter Try.func28, Try.ntmps28
    go_wp2
    go_ret
    refine ⟨⟨t.toNat, by omega, ?_⟩, rfl⟩
    show Ending.returned (.int .i64 t) = _
    congr 2
    omega
end Go.Proofs.Ytclheacjhkoocaa
